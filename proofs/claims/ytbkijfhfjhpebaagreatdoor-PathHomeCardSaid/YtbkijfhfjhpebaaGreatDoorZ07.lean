/-
  Closures of the library's functions, laid at this program (made by the kit's lay-plain.mjs).
-/
import Derived.Shelf.SlGeneric
import Derived.Shelf.SlLaysF0
import Derived.Test.YtbkijfhfjhpebaaGreatDoorProg
import Derived.Test.YtbkijfhfjhpebaaGreatDoorZ06
import Derived.Shelf.SlSortCmp.PdqK
import Derived.Shelf.SlSortCmp.NoneTotal
import Derived.Test.YtbkijfhfjhpebaaGreatDoorZ05
import Derived.Test.YtbkijfhfjhpebaaGreatDoorRows
import Derived.Shelf.SlSortCmp.KitK
import Derived.Sort.WalkB2
import Derived.Sort.WalkB12
import Derived.Deep.LoopGhost
import Derived.Test.YtbkijfhfjhpebaaGreatDoorZ01
import Derived.Test.YtbkijfhfjhpebaaGreatDoorZ04
import Derived.Test.YtbkijfhfjhpebaaGreatDoorZ03
import Derived.Test.YtbkijfhfjhpebaaGreatDoorZ03
import Derived.Test.YtbkijfhfjhpebaaGreatDoorZ04
import Derived.Deep.Cut
import Derived.Deep.DeepCutAuto
import Derived.Test.YtbkijfhfjhpebaaGreatDoorZ02
namespace Go.Proofs
open Go.Shelf
def Tryz.insOp_ren : Go.Shelf.Ren := ⟨fun | 20 => 115 | n => n, fun | 24 => 56 | 22 => 22 | 3 => 3 | 25 => 106 | 4 => 4 | 0 => 0 | n => n, fun | n => n⟩
theorem Tryz.insOp : Go.Proofs.SlLaysF0.n20 Tryz.prog Tryz.insOp_ren := {
  mixed := by kernel_rfl
  f20 := ⟨Tryz.f115.name, by decide, Tryz.func115.trans (congrArg some (by kernel_rfl))⟩
  t0 := Tryz.underlying0
  a0 := Tryz.isAgg0
  z0 := Tryz.sizeOf0
  v0 := Tryz.zeroValue0
  t3 := Tryz.underlying3
  a3 := Tryz.isAgg3
  z3 := Tryz.sizeOf3
  v3 := Tryz.zeroValue3
  t4 := Tryz.underlying4
  a4 := Tryz.isAgg4
  z4 := Tryz.sizeOf4
  v4 := Tryz.zeroValue4
  t22 := Tryz.underlying22
  a22 := Tryz.isAgg22
  z22 := Tryz.sizeOf22
  v22 := Tryz.zeroValue22
  t25 := Tryz.underlying106
  a25 := Tryz.isAgg106
  z25 := Tryz.sizeOf106
  v25 := Tryz.zeroValue106 }
end Go.Proofs

/-
  The library's stable sort, whole, at elements of k cells: what a row holds is sorted, and equal keys stay in turn.
-/
namespace Go.Proofs.YtbkijfhfjhpebaaGreatDoor
open Go.RowKit Go.Shelf Go.Sort Go.Lib StableM

section
variable {α κ : Type} [DecidableEq κ] {key : α → κ} {lt : κ → κ → Bool}

variable (key lt)

/-- Pieces of so many, each sorted. -/
def Runs (bs : Nat) (x : List α) : Prop := ∀ i, Up key lt ((x.drop (i * bs)).take bs)

variable {key lt}

omit [DecidableEq κ] in
theorem up_take {x : List α} (h : Up key lt x) (n : Nat) : Up key lt (x.take n) := List.Pairwise.sublist (List.take_sublist n x) h

omit [DecidableEq κ] in
theorem runs_nil (bs : Nat) : Runs key lt bs ([] : List α) := fun i => by rw [List.drop_nil, List.take_nil]; exact List.Pairwise.nil

omit [DecidableEq κ] in
theorem runs_snoc {bs i : Nat} {y s : List α} (h : Runs key lt bs y) (hy : y.length = i * bs) (hs : s.length ≤ bs) (hu : Up key lt s) : Runs key lt bs (y ++ s) := by
  intro j
  rcases Nat.lt_trichotomy j i with q | q | q
  · have h1 : j * bs + bs ≤ y.length := by
      rw [hy, ← Nat.succ_mul]
      exact Nat.mul_le_mul_right bs q
    rw [List.drop_append_of_le_length (by omega), List.take_append_of_le_length (by rw [List.length_drop]; omega)]
    exact h j
  · subst q
    rw [← hy, List.drop_left]
    exact up_take hu bs
  · have h1 : i * bs + bs ≤ j * bs := by
      rw [← Nat.succ_mul]
      exact Nat.mul_le_mul_right bs q
    rw [List.drop_of_length_le (by rw [List.length_append]; omega), List.take_nil]
    exact List.Pairwise.nil

omit [DecidableEq κ] in
theorem runs_drop {bs : Nat} {x : List α} (h : Runs key lt bs x) (j : Nat) : Runs key lt bs (x.drop (j * bs)) := by
  intro i
  rw [List.drop_drop, ← Nat.add_mul]
  exact h (j + i)

omit [DecidableEq κ] in
theorem runs_one {bs : Nat} {x : List α} (h : Runs key lt bs x) : Up key lt (x.take bs) := by
  have := h 0
  rwa [Nat.zero_mul, List.drop_zero] at this

omit [DecidableEq κ] in
theorem runs_all {bs : Nat} {x : List α} (h : Runs key lt bs x) (hx : x.length ≤ bs) : Up key lt x := by
  have := runs_one h
  rwa [List.take_of_length_le hx] at this

end

section
variable {P : Program} {k : Nat} {α κ : Type} [Inhabited α] [DecidableEq κ] {key : α → κ} {lt : κ → κ → Bool}

/-- A row of which a piece is sorted. -/
def Piece (enc : α → List Value) (k : Nat) (w0 : World) (blk off size : Nat) (key : α → κ) (lt : κ → κ → Bool) (p x z : List α) (e : Ending) (w' : World) : Prop :=
  e = .returned (.tuple #[]) ∧ ∃ (d' : Array α) (q : List α), d'.size = size ∧ d'.toList = p ++ q ++ z ∧ q.length = x.length ∧ SameK key q x ∧ Up key lt q ∧ SWK enc k w0 blk off d' w'

/-- A row, all of it sorted. -/
def AllUp (enc : α → List Value) (k : Nat) (w0 : World) (blk off : Nat) (key : α → κ) (lt : κ → κ → Bool) (d : Array α) (e : Ending) (w' : World) : Prop :=
  e = .returned (.tuple #[]) ∧ ∃ d' : Array α, d'.size = d.size ∧ SameK key d'.toList d.toList ∧ Up key lt d'.toList ∧ SWK enc k w0 blk off d' w'

set_option maxHeartbeats 8000000 in
set_option maxRecDepth 1000000 in
theorem stable_in (L : SortIn P k) (enc : α → List Value) (fv : Value) (blk off cap : Nat) (d0 : Array α) (w0 : World) (hsz : d0.size < 1000000000) (eI : ∀ args w, (callFunc 115 args).run P w = .ok (.enter 115 args) w)
    (HI : ∀ (d : Array α) (W : World) (a b : Nat) (p x z : List α), d.size = d0.size → SWK enc k w0 blk off d W → d.toList = p ++ x ++ z → a = p.length → b = p.length + x.length → Calls P 115 #[.slice (some ⟨blk, off, none⟩) d0.size cap, .int .i64 a, .int .i64 b, fv] W (Piece enc k w0 blk off d0.size key lt p x z))
    (HM : ∀ (d : Array α) (w : World) (a m b : Nat) (p l r z : List α), d.size = d0.size → SWK enc k w0 blk off d w → d.toList = p ++ l ++ r ++ z → a = p.length → m = p.length + l.length → b = p.length + l.length + r.length → 0 < l.length → 0 < r.length → Up key lt l → Up key lt r →
      Calls P 116 #[.slice (some ⟨blk, off, none⟩) d0.size cap, .int .i64 a, .int .i64 m, .int .i64 b, fv] w (Merged enc k w0 blk off d0.size key lt p l r z))
    (n : Nat) (hn : n = d0.size) (w : World) (S : SWK enc k w0 blk off d0 w) :
    Calls P 84 #[.slice (some ⟨blk, off, none⟩) d0.size cap, .int .i64 n, fv] w (AllUp enc k w0 blk off key lt d0) := by
  obtain ⟨mixed, fSwap, fRot, fMerge, fStable, aE, zE, t0, a0, z0, v0, t3, a3, z3, v3, t4, a4, z4, v4, t22, a22, z22, v22, t124, a124, z124, v124, t68, a68, z68, v68⟩ := L
  have eM : ∀ args w, (callFunc 116 args).run P w = .ok (.enter 116 args) w := enters_of fMerge (by kernel_rfl) rfl
  have S0 : Aside (SWK enc k w0 blk off d0 w) := S
  have HI' : Aside _ := HI
  have HM' : Aside _ := HM
  have HNS : Aside (n = d0.size) := hn
  have hnb : n < 1000000000 := by omega
  have HL0 : Aside (d0.toList.length = n) := by show _ = _; rw [Array.length_toList, hn]
  clear S HI HM hn
  go_enter fStable, Tryz.ntmps84
  go_wp2
  go_loopg [7, 8] n (fun kx s7 s8 wr => ∃ (i a b : Nat) (d : Array α) (y z : List α), s7 = .int .i64 a ∧ s8 = .int .i64 b ∧ b = a + 20 ∧ a ≤ n ∧ n - a ≤ kx ∧ Aside (a = i * 20 ∧ d.size = d0.size ∧ d.toList = y ++ z ∧ y.length = a ∧ Runs key lt 20 y ∧ SameK key d.toList d0.toList) ∧ Aside (SWK enc k w0 blk off d wr))
  case atStart => exact ⟨0, 0, 20, d0, [], d0.toList, by go_num, by go_num, by omega, by omega, by omega, ⟨by omega, rfl, rfl, rfl, runs_nil 20, SameK.refl _⟩, S0⟩
  case round =>
    clear S0
    obtain ⟨i, a, b, d, y, z, rfl, rfl, hab, han, hkx, HD, S1⟩ := hrel
    by_cases hlt : b ≤ n
    · have hltz : (b : Int) ≤ (n : Int) := by omega
      have HC : Aside (Calls P 115 #[.slice (some ⟨blk, off, none⟩) d0.size cap, .int .i64 a, .int .i64 b, fv] wr (Piece enc k w0 blk off d0.size key lt y (z.take 20) (z.drop 20))) := by
        obtain ⟨h1, h2, h3, h4, h5, h6⟩ := HD.out
        have hz : z.length = n - a := by
          have := congrArg List.length h3
          rw [Array.length_toList, h2, List.length_append, h4] at this
          have := HNS.out
          omega
        exact HI'.out d wr a b y (z.take 20) (z.drop 20) h2 S1.out (by rw [h3, List.append_assoc, List.take_append_drop]) h4.symm (by rw [List.length_take]; omega)
      have HAB : Aside (b = a + 20) := hab
      clear hab
      go_wp2_with fail
      refine Calls.mono HC.out ?_
      rintro e w5 ⟨rfl, d5, q, f1, f2, f3, f4, f5, f6⟩
      have HD5 : Aside (b = (i + 1) * 20 ∧ d5.size = d0.size ∧ d5.toList = (y ++ q) ++ z.drop 20 ∧ (y ++ q).length = b ∧ Runs key lt 20 (y ++ q) ∧ SameK key d5.toList d0.toList) := by
        have hab := HAB.out
        obtain ⟨h1, h2, h3, h4, h5, h6⟩ := HD.out
        have hz : z.length = n - a := by
          have := congrArg List.length h3
          rw [Array.length_toList, h2, List.length_append, h4] at this
          have := HNS.out
          omega
        rw [List.length_take] at f3
        refine ⟨by omega, f1, f2, by rw [List.length_append]; omega, runs_snoc h5 (h4.trans h1) (by omega) f5, ?_⟩
        rw [f2]
        refine SameK.trans ?_ h6
        rw [h3]
        have := ((SameK.refl y).append f4).append (SameK.refl (z.drop 20))
        rwa [List.append_assoc y (z.take 20), List.take_append_drop] at this
      have S5 : Aside (SWK enc k w0 blk off d5 w5) := f6
      clear f1 f2 f3 f4 f5 f6 HC HD S1
      go_wp2
      go_roundg (n - b)
      case measure => have := HAB.out; omega
      case rel => exact ⟨i + 1, b, b + 20, d5, y ++ q, z.drop 20, rfl, by go_num, rfl, by omega, Nat.le_refl _, HD5, S5⟩
    · have hltz : ¬ (b : Int) ≤ (n : Int) := by omega
      have HC : Aside (Calls P 115 #[.slice (some ⟨blk, off, none⟩) d0.size cap, .int .i64 a, .int .i64 n, fv] wr (Piece enc k w0 blk off d0.size key lt y z [])) := by
        obtain ⟨h1, h2, h3, h4, h5, h6⟩ := HD.out
        have hz : z.length = n - a := by
          have := congrArg List.length h3
          rw [Array.length_toList, h2, List.length_append, h4] at this
          have := HNS.out
          omega
        exact HI'.out d wr a n y z [] h2 S1.out (by rw [h3, List.append_nil]) h4.symm (by omega)
      have HAB : Aside (b = a + 20) := hab
      clear hab
      go_wp2_with fail
      refine Calls.mono HC.out ?_
      rintro e w5 ⟨rfl, d5, q, f1, f2, f3, f4, f5, f6⟩
      have HD5 : Aside (d5.size = d0.size ∧ Runs key lt 20 d5.toList ∧ SameK key d5.toList d0.toList) := by
        have hab := HAB.out
        obtain ⟨h1, h2, h3, h4, h5, h6⟩ := HD.out
        have hz : z.length = n - a := by
          have := congrArg List.length h3
          rw [Array.length_toList, h2, List.length_append, h4] at this
          have := HNS.out
          omega
        rw [List.append_nil] at f2
        refine ⟨f1, by rw [f2]; exact runs_snoc h5 (h4.trans h1) (by omega) f5, ?_⟩
        rw [f2]
        refine SameK.trans ?_ h6
        rw [h3]
        exact (SameK.refl y).append f4
      have S5 : Aside (SWK enc k w0 blk off d5 w5) := f6
      clear f1 f2 f3 f4 f5 f6 HC HD S1 HAB hlt hltz hkx han
      go_wp2
      go_loopg [6, 7, 8, 9] n (fun kx s6 s7 s8 s9 wr => ∃ (bs : Nat) (d : Array α), s6 = .int .i64 bs ∧ 0 < bs ∧ bs < 2000000000 ∧ n - bs ≤ kx ∧ Aside (d.size = d0.size ∧ Runs key lt bs d.toList ∧ SameK key d.toList d0.toList) ∧ Aside (SWK enc k w0 blk off d wr))
      case atStart => exact ⟨20, d5, by go_num, by omega, by omega, by omega, HD5, S5⟩
      case round =>
        clear S5 HD5
        obtain ⟨bs, dB, rfl, hb0, hbb, hkb, HDB, SB⟩ := hrel
        by_cases hlt : bs < n
        · have hltz : (bs : Int) < (n : Int) := by omega
          obtain ⟨b2, hb2⟩ : ∃ b2, b2 = 2 * bs := ⟨_, rfl⟩
          have hb2z : (2 : Int) * (bs : Int) = (b2 : Int) := by omega
          have hb2l : b2 < 4000000000 := by omega
          have HB2 : Aside (b2 = 2 * bs) := hb2
          clear hb2
          obtain ⟨g2, hg2⟩ : ∃ g, g = gk := ⟨_, rfl⟩
          subst hg2
          go_wp2
          go_loopg [7, 8] n (fun kx s7 s8 wr => ∃ (i a b : Nat) (d : Array α) (y z : List α), s7 = .int .i64 a ∧ s8 = .int .i64 b ∧ b = a + b2 ∧ a ≤ n ∧ n - a ≤ kx ∧ Aside (a = i * b2 ∧ d.size = d0.size ∧ d.toList = y ++ z ∧ y.length = a ∧ Runs key lt b2 y ∧ Runs key lt bs z ∧ SameK key d.toList d0.toList) ∧ Aside (SWK enc k w0 blk off d wr))
          case atStart => exact ⟨0, 0, b2, dB, [], dB.toList, by go_num, by go_num, by omega, by omega, by omega, ⟨by omega, HDB.out.1, rfl, rfl, runs_nil b2, HDB.out.2.1, HDB.out.2.2⟩, SB⟩
          case round =>
            clear SB HDB
            obtain ⟨i, a, b, d, y, z, rfl, rfl, hab, han, hkx, HD, S1⟩ := hrel
            have HZ : Aside (z.length = n - a) := by
              obtain ⟨h1, h2, h3, h4, _⟩ := HD.out
              have := congrArg List.length h3
              rw [Array.length_toList, h2, List.length_append, h4] at this
              have := HNS.out
              show _ = _
              omega
            by_cases hlt2 : b ≤ n
            · have hlt2z : (b : Int) ≤ (n : Int) := by omega
              have hbsn : 0 < bs := hb0
              have HC : Aside (Calls P 116 #[.slice (some ⟨blk, off, none⟩) d0.size cap, .int .i64 a, .int .i64 ((a + bs : Nat) : Int), .int .i64 b, fv] wr (Merged enc k w0 blk off d0.size key lt y (z.take bs) ((z.drop bs).take bs) (z.drop b2))) := by
                obtain ⟨h1, h2, h3, h4, h5, h6, h7⟩ := HD.out
                have hz := HZ.out
                have hb2 := HB2.out
                exact HM'.out d wr a (a + bs) b y (z.take bs) ((z.drop bs).take bs) (z.drop b2) h2 S1.out (by
                    rw [h3, List.append_assoc, List.append_assoc, show b2 = bs + bs by omega, ← List.drop_drop, List.take_append_drop, List.take_append_drop]) h4.symm (by rw [List.length_take]; omega) (by rw [List.length_take, List.length_take, List.length_drop]; omega) (by rw [List.length_take]; omega) (by rw [List.length_take, List.length_drop]; omega)
                  (runs_one h6) (by have := h6 1; rwa [Nat.one_mul] at this)
              have HAB : Aside (b = a + b2) := hab
              clear hab
              go_wp2_with fail
              refine Calls.mono HC.out ?_
              rintro e w5 ⟨rfl, d5, q, f1, f2, f3, f4, f5, f6⟩
              have HD5 : Aside (b = (i + 1) * b2 ∧ d5.size = d0.size ∧ d5.toList = (y ++ q) ++ z.drop b2 ∧ (y ++ q).length = b ∧ Runs key lt b2 (y ++ q) ∧ Runs key lt bs (z.drop b2) ∧ SameK key d5.toList d0.toList) := by
                have hab := HAB.out
                obtain ⟨h1, h2, h3, h4, h5, h6, h7⟩ := HD.out
                have hz := HZ.out
                have hb2 := HB2.out
                rw [List.length_take, List.length_take, List.length_drop] at f3
                refine ⟨by rw [Nat.succ_mul]; omega, f1, f2, by rw [List.length_append]; omega, runs_snoc h5 (h4.trans h1) (by omega) f5, ?_, ?_⟩
                · have := runs_drop h6 2
                  rwa [← hb2] at this
                · rw [f2]
                  refine SameK.trans ?_ h7
                  rw [h3]
                  have := ((SameK.refl y).append f4).append (SameK.refl (z.drop b2))
                  have e : z.take bs ++ (z.drop bs).take bs ++ z.drop b2 = z := by rw [List.append_assoc, show b2 = bs + bs by omega, ← List.drop_drop, List.take_append_drop, List.take_append_drop]
                  rwa [List.append_assoc y (z.take bs ++ (z.drop bs).take bs), e] at this
              have S5 : Aside (SWK enc k w0 blk off d5 w5) := f6
              clear f1 f2 f3 f4 f5 f6 HC HD S1
              go_wp2
              go_roundg (n - b)
              case measure => have := HB2.out; have := HAB.out; omega
              case rel => exact ⟨i + 1, b, b + b2, d5, y ++ q, z.drop b2, rfl, by go_num, rfl, by omega, Nat.le_refl _, HD5, S5⟩
            · have hlt2z : ¬ (b : Int) ≤ (n : Int) := by omega
              by_cases hmn : a + bs < n
              · have hmz : (a : Int) + (bs : Int) < (n : Int) := by omega
                have HC : Aside (Calls P 116 #[.slice (some ⟨blk, off, none⟩) d0.size cap, .int .i64 a, .int .i64 ((a + bs : Nat) : Int), .int .i64 n, fv] wr (Merged enc k w0 blk off d0.size key lt y (z.take bs) (z.drop bs) [])) := by
                  obtain ⟨h1, h2, h3, h4, h5, h6, h7⟩ := HD.out
                  have hz := HZ.out
                  have hb2 := HB2.out
                  exact HM'.out d wr a (a + bs) n y (z.take bs) (z.drop bs) [] h2 S1.out (by
                      rw [h3, List.append_nil, List.append_assoc, List.take_append_drop]) h4.symm (by rw [List.length_take]; omega) (by rw [List.length_take, List.length_drop]; omega) (by rw [List.length_take]; omega) (by rw [List.length_drop]; omega)
                    (runs_one h6) (by have := runs_drop h6 1; rw [Nat.one_mul] at this; exact runs_all this (by rw [List.length_drop]; omega))
                have HAB : Aside (b = a + b2) := hab
                clear hab
                go_wp2_with fail
                refine Calls.mono HC.out ?_
                rintro e w5 ⟨rfl, d5, q, f1, f2, f3, f4, f5, f6⟩
                have HD5 : Aside (d5.size = d0.size ∧ Runs key lt (bs * 2) d5.toList ∧ SameK key d5.toList d0.toList) := by
                  have hab := HAB.out
                  obtain ⟨h1, h2, h3, h4, h5, h6, h7⟩ := HD.out
                  have hz := HZ.out
                  have hb2 := HB2.out
                  rw [List.append_nil] at f2
                  rw [List.length_take, List.length_drop] at f3
                  rw [show bs * 2 = b2 by omega]
                  refine ⟨f1, by rw [f2]; exact runs_snoc h5 (h4.trans h1) (by omega) f5, ?_⟩
                  rw [f2]
                  refine SameK.trans ?_ h7
                  rw [h3]
                  have := (SameK.refl y).append f4
                  rwa [List.take_append_drop] at this
                have S5 : Aside (SWK enc k w0 blk off d5 w5) := f6
                clear f1 f2 f3 f4 f5 f6 HC HD S1 HAB
                go_wp2
                go_roundg (n - bs * 2)
                case measure => omega
                case rel => exact ⟨bs * 2, d5, by go_num, by omega, by omega, Nat.le_refl _, HD5, S5⟩
              · have hmz : ¬ (a : Int) + (bs : Int) < (n : Int) := by omega
                have HD5 : Aside (d.size = d0.size ∧ Runs key lt (bs * 2) d.toList ∧ SameK key d.toList d0.toList) := by
                  obtain ⟨h1, h2, h3, h4, h5, h6, h7⟩ := HD.out
                  have hz := HZ.out
                  have hb2 := HB2.out
                  rw [show bs * 2 = b2 by omega]
                  refine ⟨h2, ?_, h7⟩
                  rw [h3]
                  exact runs_snoc h5 (h4.trans h1) (by omega) (runs_all h6 (by omega))
                clear HD
                go_wp2
                go_roundg (n - bs * 2)
                case measure => omega
                case rel => exact ⟨bs * 2, d, by go_num, by omega, by omega, Nat.le_refl _, HD5, S1⟩
        · have hltz : ¬ (bs : Int) < (n : Int) := by omega
          have HFIN : Aside (AllUp enc k w0 blk off key lt d0 (.returned (.tuple #[])) wr) := by
            obtain ⟨h1, h2, h3⟩ := HDB.out
            refine ⟨rfl, dB, h1, h3, runs_all h2 ?_, SB.out⟩
            rw [Array.length_toList, h1]
            have := HNS.out
            omega
          clear HDB SB
          go_wp2
          go_end0
          exact HFIN.out

end

end Go.Proofs.YtbkijfhfjhpebaaGreatDoor

/-
  The library's CompactFunc at elements of k cells: of each run of equal keys the first one is left (made by gen_comp.py).
-/
namespace Go.Proofs.YtbkijfhfjhpebaaGreatDoor
open Go.RowKit Go.Shelf Go.Sort Go.Lib StableM

structure CompIn (P : Program) (k : Nat) : Prop where
  mixed : P.follows .mixedOrders = true
  fComp : P.funcs[61]? = some Tryz.f61
  agg : ∀ w, (isAgg 56).run P w = .ok true w
  siz : ∀ w, (Go.sizeOf 56).run P w = .ok k w
  t0 : P.underlying 0 = some (TypeDesc.tuple #[])
  a0 : ∀ w, (isAgg 0).run P w = .ok false w
  z0 : ∀ w, (Go.sizeOf 0).run P w = .ok 1 w
  v0 : ∀ w, (zeroValue 0).run P w = .ok (Value.tuple #[]) w
  t3 : P.underlying 3 = some (TypeDesc.int IntKind.i64)
  a3 : ∀ w, (isAgg 3).run P w = .ok false w
  z3 : ∀ w, (Go.sizeOf 3).run P w = .ok 1 w
  v3 : ∀ w, (zeroValue 3).run P w = .ok (Value.int IntKind.i64 0) w
  t4 : P.underlying 4 = some (TypeDesc.bool)
  a4 : ∀ w, (isAgg 4).run P w = .ok false w
  z4 : ∀ w, (Go.sizeOf 4).run P w = .ok 1 w
  v4 : ∀ w, (zeroValue 4).run P w = .ok (Value.bool false) w
  t22 : P.underlying 22 = some (TypeDesc.slice 56)
  a22 : ∀ w, (isAgg 22).run P w = .ok false w
  z22 : ∀ w, (Go.sizeOf 22).run P w = .ok 1 w
  v22 : ∀ w, (zeroValue 22).run P w = .ok (Value.slice none 0 0) w
  t70 : P.underlying 108 = some (TypeDesc.func #[56, 56] #[4] false)
  a70 : ∀ w, (isAgg 108).run P w = .ok false w
  z70 : ∀ w, (Go.sizeOf 108).run P w = .ok 1 w
  v70 : ∀ w, (zeroValue 108).run P w = .ok (Value.nilFunc) w

theorem comp_in : CompIn Tryz.prog 13 where
  mixed := by kernel_rfl
  fComp := Tryz.func61
  agg := Tryz.isAgg56
  siz := Tryz.sizeOf56
  t0 := Tryz.underlying0
  a0 := Tryz.isAgg0
  z0 := Tryz.sizeOf0
  v0 := Tryz.zeroValue0
  t3 := Tryz.underlying3
  a3 := Tryz.isAgg3
  z3 := Tryz.sizeOf3
  v3 := Tryz.zeroValue3
  t4 := Tryz.underlying4
  a4 := Tryz.isAgg4
  z4 := Tryz.sizeOf4
  v4 := Tryz.zeroValue4
  t22 := Tryz.underlying22
  a22 := Tryz.isAgg22
  z22 := Tryz.sizeOf22
  v22 := Tryz.zeroValue22
  t70 := Tryz.underlying108
  a70 := Tryz.isAgg108
  z70 := Tryz.sizeOf108
  v70 := Tryz.zeroValue108

section
variable {P : Program} {k : Nat} {α κ : Type} [Inhabited α] [DecidableEq κ] {key : α → κ}

/-- Some cells of a row are written. -/
theorem swk_put {enc : α → List Value} {w0 W : World} {blk off : Nat} {dk dk' : Array α} (h : SWK enc k w0 blk off dk W) (hblk : blk < w0.heap.size) (s : Nat) (vs : List Value) (hs : s + vs.length ≤ dk.size * k) (he : setMany (flatK enc k dk) s vs = flatK enc k dk') : SWK enc k w0 blk off dk' (W.setCells blk (off + s) vs) := by
  obtain ⟨n, os, rfl⟩ := h
  refine ⟨n, os, ?_⟩
  unfold sortWorldK
  rw [setCells_grow os blk vs _ _ (by rw [size_putRowK]; exact hblk)]
  congr 1
  unfold putRowK
  rw [setCells_putRow _ _ _ _ _ _ (by rw [size_flatK]; exact hs), he]

theorem setMany_one (enc : α → List Value) (hk : ∀ x, (enc x).length = k) (d : Array α) (i : Nat) (hi : i < d.size) (x : α) : setMany (flatK enc k d) (i * k) (enc x) = flatK enc k (d.setIfInBounds i x) := by
  refine ext_get! (by simp) fun t ht => ?_
  have ht' : t < d.size * k := by simpa using ht
  have k0 : 0 < k := by
    rcases Nat.eq_zero_or_pos k with h | h
    · subst h; simp at ht'
    · exact h
  have hd : t / k < d.size := (Nat.div_lt_iff_lt_mul k0).2 ht'
  rw [get_setMany _ _ _ t (by simpa using ht'), get_flatK _ _ _ t ht', get_flatK _ _ _ t (by simpa using ht'), hk]
  by_cases a : t / k = i
  · rw [if_pos ((blk_iff k i t k0).2 a)]
    subst a
    rw [show t - t / k * k = t % k by rw [Nat.mod_eq_sub_div_mul]]
    congr 2
    simp [hd]
  · rw [if_neg fun h => a ((blk_iff k i t k0).1 h)]
    congr 2
    simp [hd, Ne.symm a]

theorem setMany_zeros (enc : α → List Value) (hk : ∀ x, (enc x).length = k) (d : Array α) (c m : Nat) (hc : c + m = d.size) (z : α) :
    setMany (flatK enc k d) (c * k) (Builtin.zeroCells (enc z).toArray m).toList = flatK enc k (d.toList.take c ++ List.replicate m z).toArray := by
  have hsz : (d.toList.take c ++ List.replicate m z).toArray.size = d.size := by simp; omega
  refine ext_get! (by rw [size_setMany, size_flatK, size_flatK, hsz]) fun t ht => ?_
  have ht' : t < d.size * k := by simpa using ht
  have k0 : 0 < k := by
    rcases Nat.eq_zero_or_pos k with h | h
    · subst h; simp at ht'
    · exact h
  have hd : t / k < d.size := (Nat.div_lt_iff_lt_mul k0).2 ht'
  have hl : (Builtin.zeroCells (enc z).toArray m).toList.length = m * k := by simp [Builtin.zeroCells, hk]
  rw [get_setMany _ _ _ t (by simpa using ht'), get_flatK _ _ _ t ht', get_flatK _ _ _ t (by rw [hsz]; exact ht'), hl]
  by_cases a : c * k ≤ t
  · have hm : t < c * k + m * k := by rw [← Nat.add_mul, hc]; exact ht'
    rw [if_pos ⟨a, hm⟩]
    have hq : c ≤ t / k := (Nat.le_div_iff_mul_le k0).2 a
    have e1 : (d.toList.take c ++ List.replicate m z).toArray[t / k]! = z := by
      rw [getElem!_pos _ _ (by rw [hsz]; exact hd), List.getElem_toArray, List.getElem_append_right (by rw [List.length_take]; omega), List.getElem_replicate]
    rw [e1]
    have e2 : (t - c * k) % k = t % k := by
      obtain ⟨u, rfl⟩ := Nat.exists_eq_add_of_le a
      rw [Nat.add_sub_cancel_left, Nat.add_comm, Nat.add_mul_mod_self_right]
    have hlt : t - c * k < m * k := by omega
    rw [getElem!_pos _ _ (by rw [hl]; exact hlt)]
    simp [Builtin.zeroCells, hk, e2]
  · rw [if_neg fun h => a h.1]
    have hq : t / k < c := (Nat.div_lt_iff_lt_mul k0).2 (by omega)
    have e1 : (d.toList.take c ++ List.replicate m z).toArray[t / k]! = d[t / k]! := by
      rw [getElem!_pos _ _ (by rw [hsz]; exact hd), List.getElem_toArray, List.getElem_append_left (by rw [List.length_take, Array.length_toList]; omega), List.getElem_take, Array.getElem_toList, getElem!_pos d (t / k) hd]
    rw [e1]

omit [Inhabited α] in
theorem adj_next (x : List α) (j : Nat) (h0 : 0 < j) (h : j < x.length) : adjK key none (x.take (j + 1)) = adjK key none (x.take j) ++ (if key (x[j - 1]'(by omega)) = key x[j] then [] else [x[j]]) := by
  rw [List.take_succ_eq_append_getElem h, adj_snoc]
  have e : (x.take j).getLast? = some (x[j - 1]'(by omega)) := by
    rw [List.getLast?_eq_getElem?, List.length_take, Nat.min_eq_left (by omega), List.getElem?_take_of_lt (by omega), List.getElem?_eq_getElem]
  rw [e]
  simp only [Option.some.injEq]

/-- What is left of a row. -/
def Left (enc : α → List Value) (k : Nat) (w0 : World) (blk off cap : Nat) (key : α → κ) (d0 : Array α) (e : Ending) (w' : World) : Prop :=
  ∃ dk : Array α, e = .returned (.slice (some ⟨blk, off, none⟩) (adjK key none d0.toList).length cap) ∧ dk.size = d0.size ∧ dk.toList.take (adjK key none d0.toList).length = adjK key none d0.toList ∧ SWK enc k w0 blk off dk w'

set_option maxHeartbeats 8000000 in
set_option maxRecDepth 1000000 in
theorem compact_in (L : CompIn P k) (enc : α → List Value) (z : α) (vZ : ∀ w, (zeroValue 56).run P w = .ok (.agg (enc z).toArray) w) (g : Nat) (eg : ∀ args w, (callFunc g args).run P w = .ok (.enter g args) w) (hq : ∀ (W : World) (x y : α), Calls P g #[.agg (enc x).toArray, .agg (enc y).toArray] W fun e w' => e = .returned (.bool (decide (key x = key y))) ∧ ∃ q os', w' = grow (W.drewN q) os')
    (blk off cap : Nat) (d0 : Array α) (w0 : World) (R : RowK enc k w0 blk off d0) (hsz : d0.size < 1000000000) (hcap : d0.size ≤ cap) (hck : cap ≤ maxLen) (n : Nat) (hn : n = d0.size) (w : World) (S : SWK enc k w0 blk off d0 w) :
    Calls P 61 #[.slice (some ⟨blk, off, none⟩) n cap, .func (.func g) #[] #[]] w (Left enc k w0 blk off cap key d0) := by
  obtain ⟨mixed, fComp, aE, zE, t0, a0, z0, v0, t3, a3, z3, v3, t4, a4, z4, v4, t22, a22, z22, v22, t70, a70, z70, v70⟩ := L
  have S0 : Aside (SWK enc k w0 blk off d0 w) := S
  have HQ : Aside _ := hq
  have HV : Aside _ := vZ
  have HN : Aside (n = d0.size) := hn
  have hnb : n < 1000000000 := by omega
  have hcap' : n ≤ cap := by omega
  have HNL : Aside (d0.toList.length = n) := by show _ = _; rw [Array.length_toList, hn]
  have HTL : Aside (∀ t (h : t < d0.toList.length), d0[t]! = d0.toList[t]) := fun t h => get_list d0 rfl t h
  have HCK : Aside (cap ≤ maxLen) := hck
  have HZ2 : Aside (d0.size < 1000000000 ∧ d0.size ≤ cap) := ⟨hsz, hcap⟩
  clear S hq vZ hn hck hsz hcap
  by_cases h2 : n < 2
  · have h2z : (n : Int) < 2 := by omega
    have HF : Aside (Left enc k w0 blk off cap key d0 (.returned (.slice (some ⟨blk, off, none⟩) n cap)) w) := by
      have hl := HNL.out
      have e : adjK key none d0.toList = d0.toList := by
        match d0.toList, hl with
        | [], _ => rfl
        | [a], _ => rfl
        | a :: b :: t, hl => simp at hl; omega
      refine ⟨d0, by rw [e, hl], rfl, by rw [e, List.take_of_length_le (Nat.le_refl _)], S0.out⟩
    clear S0
    go_enter fComp, Tryz.ntmps61
    go_wp2
    go_ret
    exact HF.out
  have h2z : ¬ (n : Int) < 2 := by omega
  go_enter fComp, Tryz.ntmps61
  go_wp2
  go_loopg [5] n (fun kx s wr => ∃ c : Nat, s = .int .i64 c ∧ 1 ≤ c ∧ c ≤ n ∧ n - c ≤ kx ∧ Aside (adjK key none (d0.toList.take c) = d0.toList.take c) ∧ Aside (SWK enc k w0 blk off d0 wr))
  case atStart =>
    refine ⟨1, by go_num, by omega, by omega, by omega, ?_, S0⟩
    have hl := HNL.out
    show _ = _
    match d0.toList, hl with
    | [], hl => rfl
    | a :: t, _ => rfl
  case round =>
    clear S0
    obtain ⟨c, rfl, hc1, hcn, hkx, HA, S1⟩ := hrel
    by_cases hlt : c < n
    · have hltz : (c : Int) < (n : Int) := by omega
      obtain ⟨e, rfl⟩ : ∃ e, c = e + 1 := ⟨c - 1, by omega⟩
      have HNX : Aside (adjK key none (d0.toList.take (e + 1 + 1)) = adjK key none (d0.toList.take (e + 1)) ++ (if key d0[e]! = key d0[e + 1]! then [] else [d0[e + 1]!])) := by
        have hl := HNL.out
        show _ = _
        rw [HTL.out (e + 1) (by omega), HTL.out e (by omega)]
        exact adj_next d0.toList (e + 1) (by omega) (by omega)
      go_wp2_with fail
      have hn := HN.out
      have HT : Aside (∀ t, t < d0.size → d0[t]! = d0[t]!) := fun _ _ => rfl
      cases hL : decide (key d0[e + 1]! = key d0[e]!) with
      | false =>
        have HE : Aside (adjK key none (d0.toList.take (e + 1 + 1)) = d0.toList.take (e + 1 + 1)) := by
          have hl := HNL.out
          show _ = _
          rw [HNX.out, HA.out, if_neg (fun e => of_decide_eq_false hL e.symm), HTL.out (e + 1) (by omega), ← List.take_succ_eq_append_getElem (by omega)]
        have ea : ((e : Int) + 1).toNat = e + 1 := by omega
        have pa : (0 : Int) ≤ (e : Int) + 1 := by omega
        have ba : (e : Int) + 1 < (n : Int) := by omega
        have ra : IntKind.i64.wrap ((e : Int) + 1) = (e : Int) + 1 := by rw [IntKind.wrap_i64]; omega
        have ec : ((e : Int)).toNat = e := by omega
        have pc : (0 : Int) ≤ (e : Int) := by omega
        have bc : (e : Int) < (n : Int) := by omega
        have rc : IntKind.i64.wrap ((e : Int)) = (e : Int) := by rw [IntKind.wrap_i64]; omega
        obtain ⟨x, hx⟩ : ∃ x, x = d0[e + 1]! := ⟨_, rfl⟩
        obtain ⟨y, hy⟩ : ∃ y, y = d0[e]! := ⟨_, rfl⟩
        have la : ∀ n' os', Sem.run P (loadCellsFrom ⟨blk, off + (e + 1) * k, none⟩ 0 k #[]) (grow (wr.drewN n') os') = .ok (enc x).toArray (grow (wr.drewN n') os') := fun n' os' => by
          have := S1.out.ld R (by omega) P (e + 1) (by omega) n' os'
          rw [HT.out (e + 1) (by omega), ← hx] at this
          exact this
        have lb : ∀ n' os', Sem.run P (loadCellsFrom ⟨blk, off + e * k, none⟩ 0 k #[]) (grow (wr.drewN n') os') = .ok (enc y).toArray (grow (wr.drewN n') os') := fun n' os' => by
          have := S1.out.ld R (by omega) P (e) (by omega) n' os'
          rw [HT.out (e) (by omega), ← hy] at this
          exact this
        have hc : ∀ n' os', Calls P g (#[.agg (enc x).toArray, .agg (enc y).toArray] ++ #[]) (grow (wr.drewN n') os') fun e w' => e = .returned (.bool false) ∧ ∃ q os'', w' = grow ((grow (wr.drewN n') os').drewN q) os'' := fun n' os' => by
          have := HQ.out (grow (wr.drewN n') os') x y
          rw [hx, hy, hL, ← hx, ← hy] at this
          exact this
        have HXY : Aside (x = d0[e + 1]! ∧ y = d0[e]!) := ⟨hx, hy⟩
        clear hL hx hy hn
        go_quiet_grown (first | (go_at_fn g; refine Calls.grown_of (hc _ _)))
        have S2 : Aside (SWK enc k w0 blk off d0 (grow (wr.drewN nq) osq)) := S1.out.grown nq osq
        clear la lb hc S1 ea pa ba ra ec pc bc rc HXY
        generalize grow (wr.drewN nq) osq = w2 at S2 ⊢
        clear nq osq
        go_wp2
        go_roundg (n - (e + 1 + 1))
        case measure => omega
        case rel => exact ⟨e + 1 + 1, by go_num, by omega, by omega, Nat.le_refl _, HE, S2⟩
      | true =>
        have HE : Aside (adjK key none (d0.toList.take (e + 1 + 1)) = d0.toList.take (e + 1)) := by
          show _ = _
          rw [HNX.out, HA.out, if_pos (of_decide_eq_true hL).symm, List.append_nil]
        have ea : ((e : Int) + 1).toNat = e + 1 := by omega
        have pa : (0 : Int) ≤ (e : Int) + 1 := by omega
        have ba : (e : Int) + 1 < (n : Int) := by omega
        have ra : IntKind.i64.wrap ((e : Int) + 1) = (e : Int) + 1 := by rw [IntKind.wrap_i64]; omega
        have ec : ((e : Int)).toNat = e := by omega
        have pc : (0 : Int) ≤ (e : Int) := by omega
        have bc : (e : Int) < (n : Int) := by omega
        have rc : IntKind.i64.wrap ((e : Int)) = (e : Int) := by rw [IntKind.wrap_i64]; omega
        obtain ⟨x, hx⟩ : ∃ x, x = d0[e + 1]! := ⟨_, rfl⟩
        obtain ⟨y, hy⟩ : ∃ y, y = d0[e]! := ⟨_, rfl⟩
        have la : ∀ n' os', Sem.run P (loadCellsFrom ⟨blk, off + (e + 1) * k, none⟩ 0 k #[]) (grow (wr.drewN n') os') = .ok (enc x).toArray (grow (wr.drewN n') os') := fun n' os' => by
          have := S1.out.ld R (by omega) P (e + 1) (by omega) n' os'
          rw [HT.out (e + 1) (by omega), ← hx] at this
          exact this
        have lb : ∀ n' os', Sem.run P (loadCellsFrom ⟨blk, off + e * k, none⟩ 0 k #[]) (grow (wr.drewN n') os') = .ok (enc y).toArray (grow (wr.drewN n') os') := fun n' os' => by
          have := S1.out.ld R (by omega) P (e) (by omega) n' os'
          rw [HT.out (e) (by omega), ← hy] at this
          exact this
        have hc : ∀ n' os', Calls P g (#[.agg (enc x).toArray, .agg (enc y).toArray] ++ #[]) (grow (wr.drewN n') os') fun e w' => e = .returned (.bool true) ∧ ∃ q os'', w' = grow ((grow (wr.drewN n') os').drewN q) os'' := fun n' os' => by
          have := HQ.out (grow (wr.drewN n') os') x y
          rw [hx, hy, hL, ← hx, ← hy] at this
          exact this
        have HXY : Aside (x = d0[e + 1]! ∧ y = d0[e]!) := ⟨hx, hy⟩
        clear hL hx hy hn
        go_quiet_grown (first | (go_at_fn g; refine Calls.grown_of (hc _ _)))
        have S2 : Aside (SWK enc k w0 blk off d0 (grow (wr.drewN nq) osq)) := S1.out.grown nq osq
        clear la lb hc S1 ea pa ba ra ec pc bc rc HXY
        generalize grow (wr.drewN nq) osq = w2 at S2 ⊢
        clear nq osq
        have hccap : e + 1 < cap := by omega
        obtain ⟨c, hce⟩ : ∃ c, c = e + 1 := ⟨_, rfl⟩
        have hcez : (e : Int) + 1 = (c : Int) := by omega
        rw [← hce] at hccap HE hc1 hlt hcn
        simp only [hcez]
        clear hce hcez
        have HT2 : Aside (1 ≤ c ∧ c < n) := ⟨hc1, hlt⟩
        have hcl : c ≤ n := hcn
        clear HNX HA HT hkx hltz
        go_wp2
        go_loopg [5, 7] n (fun kx s t wr => ∃ (kk j : Nat) (dk : Array α), s = .int .i64 kk ∧ t = .int .i64 j ∧ 1 ≤ j ∧ c + j ≤ n ∧ kk < c + j ∧ n - (c + j) ≤ kx ∧ Aside (dk.size = d0.size ∧ dk.toList.take kk = adjK key none (d0.toList.take (c + j)) ∧ ∀ t, kk ≤ t → dk[t]! = d0[t]!) ∧ Aside (SWK enc k w0 blk off dk wr))
        case atStart => exact ⟨c, 1, d0, by go_num, by go_num, by omega, by omega, by omega, by omega, ⟨rfl, HE.out.symm, fun _ _ => rfl⟩, S2⟩
        case round =>
          clear S2 HE
          obtain ⟨kk, j, dk, rfl, rfl, hj1, hcj, hkj, hkx2, HD, S1⟩ := hrel
          by_cases hlt2 : j < n - c
          · have hlt2z : (j : Int) < (n : Int) - (c : Int) := by omega
            obtain ⟨f, rfl⟩ : ∃ f, j = f + 1 := ⟨j - 1, by omega⟩
            have HNX : Aside (adjK key none (d0.toList.take (c + (f + 1) + 1)) = adjK key none (d0.toList.take (c + (f + 1))) ++ (if key d0[c + f]! = key d0[c + (f + 1)]! then [] else [d0[c + (f + 1)]!])) := by
              have hl := HNL.out
              show _ = _
              rw [HTL.out (c + (f + 1)) (by omega), HTL.out (c + f) (by omega)]
              exact adj_next d0.toList (c + (f + 1)) (by omega) (by omega)
            go_wp2_with fail
            have hn := HN.out
            have hds := HD.out.1
            have HT : Aside (∀ t, kk ≤ t → dk[t]! = d0[t]!) := HD.out.2.2
            cases hL : decide (key d0[c + (f + 1)]! = key d0[c + f]!) with
            | true =>
              have HE : Aside (dk.size = d0.size ∧ dk.toList.take kk = adjK key none (d0.toList.take (c + (f + 1) + 1)) ∧ ∀ t, kk ≤ t → dk[t]! = d0[t]!) := ⟨HD.out.1, by rw [HNX.out, if_pos (of_decide_eq_true hL).symm, List.append_nil]; exact HD.out.2.1, HD.out.2.2⟩
              have ea : ((f : Int) + 1).toNat = f + 1 := by omega
              have pa : (0 : Int) ≤ (f : Int) + 1 := by omega
              have ba : (f : Int) + 1 < ((n - c : Nat) : Int) := by omega
              have ra : IntKind.i64.wrap ((f : Int) + 1) = (f : Int) + 1 := by rw [IntKind.wrap_i64]; omega
              have ec : ((f : Int)).toNat = f := by omega
              have pc : (0 : Int) ≤ (f : Int) := by omega
              have bc : (f : Int) < ((n - c : Nat) : Int) := by omega
              have rc : IntKind.i64.wrap ((f : Int)) = (f : Int) := by rw [IntKind.wrap_i64]; omega
              obtain ⟨x, hx⟩ : ∃ x, x = d0[c + (f + 1)]! := ⟨_, rfl⟩
              obtain ⟨y, hy⟩ : ∃ y, y = d0[c + f]! := ⟨_, rfl⟩
              have la : ∀ n' os', Sem.run P (loadCellsFrom ⟨blk, off + c * k + (f + 1) * k, none⟩ 0 k #[]) (grow (wr.drewN n') os') = .ok (enc x).toArray (grow (wr.drewN n') os') := fun n' os' => by
                have := S1.out.ld R (by omega) P (c + (f + 1)) (by omega) n' os'
                rw [HT.out (c + (f + 1)) (by omega), ← hx] at this
                rwa [Nat.add_mul c (f + 1), ← Nat.add_assoc] at this
              have lb : ∀ n' os', Sem.run P (loadCellsFrom ⟨blk, off + c * k + f * k, none⟩ 0 k #[]) (grow (wr.drewN n') os') = .ok (enc y).toArray (grow (wr.drewN n') os') := fun n' os' => by
                have := S1.out.ld R (by omega) P (c + f) (by omega) n' os'
                rw [HT.out (c + f) (by omega), ← hy] at this
                rwa [Nat.add_mul c f, ← Nat.add_assoc] at this
              have hc : ∀ n' os', Calls P g (#[.agg (enc x).toArray, .agg (enc y).toArray] ++ #[]) (grow (wr.drewN n') os') fun e w' => e = .returned (.bool true) ∧ ∃ q os'', w' = grow ((grow (wr.drewN n') os').drewN q) os'' := fun n' os' => by
                have := HQ.out (grow (wr.drewN n') os') x y
                rw [hx, hy, hL, ← hx, ← hy] at this
                exact this
              have HXY : Aside (x = d0[c + (f + 1)]! ∧ y = d0[c + f]!) := ⟨hx, hy⟩
              clear hL hx hy hn hds
              go_quiet_grown (first | (go_at_fn g; refine Calls.grown_of (hc _ _)))
              have S2 : Aside (SWK enc k w0 blk off dk (grow (wr.drewN nq) osq)) := S1.out.grown nq osq
              clear la lb hc S1 ea pa ba ra ec pc bc rc HXY HT HNX HD
              generalize grow (wr.drewN nq) osq = w2 at S2 ⊢
              clear nq osq
              go_wp2
              go_roundg (n - (c + (f + 1) + 1))
              case measure => omega
              case rel => exact ⟨kk, f + 1 + 1, dk, rfl, by go_num, by omega, by omega, by omega, Nat.le_refl _, HE, S2⟩
            | false =>
              have HLK : Aside (¬ key d0[c + f]! = key d0[c + (f + 1)]!) := fun e => of_decide_eq_false hL e.symm
              have ea : ((f : Int) + 1).toNat = f + 1 := by omega
              have pa : (0 : Int) ≤ (f : Int) + 1 := by omega
              have ba : (f : Int) + 1 < ((n - c : Nat) : Int) := by omega
              have ra : IntKind.i64.wrap ((f : Int) + 1) = (f : Int) + 1 := by rw [IntKind.wrap_i64]; omega
              have ec : ((f : Int)).toNat = f := by omega
              have pc : (0 : Int) ≤ (f : Int) := by omega
              have bc : (f : Int) < ((n - c : Nat) : Int) := by omega
              have rc : IntKind.i64.wrap ((f : Int)) = (f : Int) := by rw [IntKind.wrap_i64]; omega
              obtain ⟨x, hx⟩ : ∃ x, x = d0[c + (f + 1)]! := ⟨_, rfl⟩
              obtain ⟨y, hy⟩ : ∃ y, y = d0[c + f]! := ⟨_, rfl⟩
              have la : ∀ n' os', Sem.run P (loadCellsFrom ⟨blk, off + c * k + (f + 1) * k, none⟩ 0 k #[]) (grow (wr.drewN n') os') = .ok (enc x).toArray (grow (wr.drewN n') os') := fun n' os' => by
                have := S1.out.ld R (by omega) P (c + (f + 1)) (by omega) n' os'
                rw [HT.out (c + (f + 1)) (by omega), ← hx] at this
                rwa [Nat.add_mul c (f + 1), ← Nat.add_assoc] at this
              have lb : ∀ n' os', Sem.run P (loadCellsFrom ⟨blk, off + c * k + f * k, none⟩ 0 k #[]) (grow (wr.drewN n') os') = .ok (enc y).toArray (grow (wr.drewN n') os') := fun n' os' => by
                have := S1.out.ld R (by omega) P (c + f) (by omega) n' os'
                rw [HT.out (c + f) (by omega), ← hy] at this
                rwa [Nat.add_mul c f, ← Nat.add_assoc] at this
              have hc : ∀ n' os', Calls P g (#[.agg (enc x).toArray, .agg (enc y).toArray] ++ #[]) (grow (wr.drewN n') os') fun e w' => e = .returned (.bool false) ∧ ∃ q os'', w' = grow ((grow (wr.drewN n') os').drewN q) os'' := fun n' os' => by
                have := HQ.out (grow (wr.drewN n') os') x y
                rw [hx, hy, hL, ← hx, ← hy] at this
                exact this
              have HXY : Aside (x = d0[c + (f + 1)]! ∧ y = d0[c + f]!) := ⟨hx, hy⟩
              clear hL hx hy hn hds
              go_quiet_grown (first | (go_at_fn g; refine Calls.grown_of (hc _ _)))
              have S2 : Aside (SWK enc k w0 blk off dk (grow (wr.drewN nq) osq)) := S1.out.grown nq osq
              clear la lb hc S1 ec pc bc rc
              generalize grow (wr.drewN nq) osq = w2 at S2 ⊢
              clear nq osq
              have hn := HN.out
              have hds := HD.out.1
              have ld : Sem.run P (loadCellsFrom ⟨blk, off + c * k + (f + 1) * k, none⟩ 0 k #[]) w2 = .ok (enc x).toArray w2 := by
                have := S2.out.load R hds P (c + (f + 1)) (by omega)
                rw [HT.out (c + (f + 1)) (by omega), ← HXY.out.1] at this
                rwa [Nat.add_mul c (f + 1), ← Nat.add_assoc] at this
              have hb : kk * k + k ≤ dk.size * k := rowK_bnd dk k kk (by omega)
              have st : Sem.run P (storeCells ⟨blk, off + kk * k, none⟩ (enc x) 0) w2 = .ok () (w2.setCells blk (off + kk * k) (enc x)) :=
                stores_of_holds P (S2.out.holds R.hblk R.hH hds) (kk * k) _ (by rw [R.hk, size_flatK]; exact hb) (R.h1 _)
              have nx : (enc x).length = k := R.hk _
              have S3 : Aside (SWK enc k w0 blk off (dk.setIfInBounds kk x) (w2.setCells blk (off + kk * k) (enc x))) := swk_put S2.out R.hblk (kk * k) (enc x) (by rw [R.hk]; exact hb) (setMany_one enc R.hk dk kk (by omega) x)
              have HE : Aside ((dk.setIfInBounds kk x).size = d0.size ∧ (dk.setIfInBounds kk x).toList.take (kk + 1) = adjK key none (d0.toList.take (c + (f + 1) + 1)) ∧ ∀ t, kk + 1 ≤ t → (dk.setIfInBounds kk x)[t]! = d0[t]!) := by
                refine ⟨by simp [hds], ?_, fun t ht => ?_⟩
                · rw [HNX.out, if_neg HLK.out, ← HD.out.2.1, ← HXY.out.1, Array.toList_setIfInBounds, List.take_succ_eq_append_getElem (by simp; omega), List.take_set_of_le (Nat.le_refl _)]
                  simp
                · rw [← HD.out.2.2 t (by omega)]
                  simp only [getElem!_def, Array.getElem?_setIfInBounds]
                  rw [if_neg (show ¬ kk = t by omega)]
              have hkd : kk < n := by omega
              clear hb hn hds S2 HT HNX HD HLK HXY
              generalize enc x = cx at ld st nx S3
              go_wp2
              generalize w2.setCells blk (off + kk * k) cx = w3 at S3 ⊢
              clear ld st nx
              go_roundg (n - (c + (f + 1) + 1))
              case measure => omega
              case rel => exact ⟨kk + 1, f + 1 + 1, _, by go_num, by go_num, by omega, by omega, by omega, Nat.le_refl _, HE, S3⟩
          · have hlt2z : ¬ (j : Int) < (n : Int) - (c : Int) := by omega
            have hkn : kk < n := by omega
            have hkcap : kk < cap := by omega
            have hn := HN.out
            have hds := HD.out.1
            obtain ⟨vs, hvs⟩ : ∃ vs, vs = (Builtin.zeroCells (enc z).toArray (n - kk)).toList := ⟨_, rfl⟩
            have hvl : vs.length = (n - kk) * k := by rw [hvs]; simp [Builtin.zeroCells, R.hk]
            have hb : kk * k + vs.length ≤ dk.size * k := by rw [hvl, ← Nat.add_mul]; exact Nat.mul_le_mul_right k (by omega)
            have hv1 : ∀ v ∈ vs, v.oneCell' = true := by
              intro v hv
              rw [hvs] at hv
              simp only [Builtin.zeroCells, Array.toList_map, List.mem_map] at hv
              obtain ⟨t, ht, rfl⟩ := hv
              have hk0 : 0 < k := by
                rcases Nat.eq_zero_or_pos k with h | h
                · subst h
                  have := R.hk z
                  simp [this] at ht
                · exact h
              have hm : t % (enc z).toArray.size < (enc z).toArray.size := Nat.mod_lt _ (by simp [R.hk, hk0])
              rw [getElem!_pos (enc z).toArray _ hm]
              exact R.h1 z _ (by simp)
            have hst := stores_of_holds P (S1.out.holds R.hblk R.hH hds) (kk * k) vs (by rw [size_flatK]; exact hb) hv1
            have hcl : ∀ ty, (Builtin.clear_ #[22] ty #[.slice (some ⟨blk, off + kk * k, none⟩) (n - kk) (cap - kk)]).run P wr = .ok (.tuple #[]) (wr.setCells blk (off + kk * k) vs) := fun ty => by
              obtain ⟨m, hm⟩ : ∃ m, n - kk = m + 1 := ⟨n - kk - 1, by omega⟩
              rw [hm] at hvs ⊢
              simp [Builtin.clear_, run_underlying t22, HV.out, Value.cells, ← hvs, hst]
            have hL : (adjK key none d0.toList).length = kk := by
              have e := HD.out.2.1
              have hl := HNL.out
              rw [List.take_of_length_le (l := d0.toList) (by omega)] at e
              rw [← e, List.length_take, Array.length_toList]
              omega
            have HF : Aside (Left enc k w0 blk off cap key d0 (.returned (.slice (some ⟨blk, off, none⟩) kk cap)) (wr.setCells blk (off + kk * k) vs)) := by
              have e := HD.out.2.1
              have hl := HNL.out
              rw [List.take_of_length_le (l := d0.toList) (by omega)] at e
              refine ⟨_, by rw [hL], ?_, ?_, swk_put (dk' := (dk.toList.take kk ++ List.replicate (n - kk) z).toArray) S1.out R.hblk (kk * k) vs hb (by rw [hvs]; exact setMany_zeros enc R.hk dk kk (n - kk) (by omega) z)⟩
              · simp; omega
              · rw [hL, ← e, List.take_append_of_le_length (by simp; omega), List.take_of_length_le (by simp; omega)]
            clear hst hv1 hb hvl hvs hn hds HD hL S1
            go_wp2
            (try simp only [Exit.inBlock, Exit.then])
            go_ret
            exact HF.out
    · have hltz : ¬ (c : Int) < (n : Int) := by omega
      have HF : Aside (Left enc k w0 blk off cap key d0 (.returned (.slice (some ⟨blk, off, none⟩) n cap)) wr) := by
        have hl := HNL.out
        have e : adjK key none d0.toList = d0.toList := by
          have := HA.out
          rwa [List.take_of_length_le (by omega)] at this
        refine ⟨d0, by rw [e, hl], rfl, by rw [e, List.take_of_length_le (Nat.le_refl _)], S1.out⟩
      clear HA S1
      go_wp2
      go_ret
      exact HF.out

end

end Go.Proofs.YtbkijfhfjhpebaaGreatDoor

/-
  Plain mathematics of layer 13: operations that may be, sorted so that equal stamps stay in turn, and the first one of each stamp alone, are sorted as the document says. It needs no program.
-/
namespace Go.Proofs.YtbkijfhfjhpebaaGreatDoor.GraphMath
open StampMath OpMath ExtentMath StableM

theorem lin_less : Lin lessS where
  irrefl := lessS_irrefl
  trans := lessS_trans
  total := fun h e => lessS_total h e

theorem first_rises {x : List Opn} (h : Rises x) (a : Opn) : a ∈ x ↔ (ofK oSt (oSt a) x).head? = some a := by
  constructor
  · intro ha
    have hm : a ∈ ofK oSt (oSt a) x := mem_ofK.2 ⟨ha, rfl⟩
    cases hq : ofK oSt (oSt a) x with
    | nil => rw [hq] at hm; exact nomatch hm
    | cons b t =>
      have hb : b ∈ ofK oSt (oSt a) x := by rw [hq]; exact List.mem_cons_self ..
      obtain ⟨h1, h2⟩ := mem_ofK.1 hb
      rw [List.head?_cons, h.one h1 ha h2]
  · intro q
    exact (mem_ofK.1 (List.mem_of_mem_head? q)).1

theorem ofK_cons (s : St) (o : Opn) (l : List Opn) : ofK oSt s (o :: l) = if oSt o = s then o :: ofK oSt s l else ofK oSt s l := by
  unfold ofK
  rw [List.filter_cons]
  by_cases e : oSt o = s <;> simp [e]

theorem puts_first : ∀ (l : List Opn) {x : List Opn}, Rises x → ∀ a, a ∈ putsO x l ↔ (ofK oSt (oSt a) (x ++ l.filter mayO)).head? = some a
  | [], x, h, a => by
    rw [List.filter_nil, List.append_nil]
    exact first_rises h a
  | o :: l, x, h, a => by
    have IH := puts_first l (put_rises h o) a
    show a ∈ putsO (putO x o).1 l ↔ _
    rw [IH]
    have key : (ofK oSt (oSt a) ((putO x o).1 ++ l.filter mayO)).head? = (ofK oSt (oSt a) (x ++ (o :: l).filter mayO)).head? := by
      unfold putO
      rw [List.filter_cons]
      by_cases hm : mayO o = false
      · rw [if_pos hm, hm]; rfl
      · have hm' : mayO o = true := by cases q : mayO o <;> simp_all
        rw [if_neg hm, hm', if_pos rfl, ofK_append, ofK_append, List.head?_append, List.head?_append]
        by_cases hh : hasO x (oSt o) = true
        · rw [if_pos hh, ofK_cons]
          by_cases e : oSt o = oSt a
          · obtain ⟨b, hb, hs⟩ := hasO_iff.1 hh
            have hb' : b ∈ ofK oSt (oSt a) x := mem_ofK.2 ⟨hb, hs.trans e⟩
            cases hq : ofK oSt (oSt a) x with
            | nil => rw [hq] at hb'; exact nomatch hb'
            | cons c t => rfl
          · rw [if_neg e]
        · rw [if_neg hh]
          show (ofK oSt (oSt a) (putIn (beforeO (oSt o)) x o)).head?.or _ = _
          rw [putIn_place, ofK_append, ofK_cons, ofK_cons]
          by_cases e : oSt o = oSt a
          · have hn : ∀ y : List Opn, (∀ b ∈ y, b ∈ x) → ofK oSt (oSt a) y = [] := fun y hy => ofK_none fun b hb q => hh (hasO_iff.2 ⟨b, hy b hb, q.trans e.symm⟩)
            rw [if_pos e, if_pos e, hn _ fun b hb => List.mem_of_mem_take hb, hn _ fun _ hb => hb]
            rfl
          · rw [if_neg e, if_neg e, ← ofK_append, List.take_append_drop]
    rw [key]

/-- Sorted, equal stamps in turn, then the first one of each stamp: as the document says. -/
theorem sort_adj {l y : List Opn} (hy : SameK oSt y (l.filter mayO)) (hu : Up oSt lessS y) : adjK oSt none y = sortO l := by
  refine rises_same (adj_rises lin_less y none (fun _ e => nomatch e) hu) (sort_rises l) fun a => ?_
  rw [adj_mem lin_less y none (fun _ e => nomatch e) hu a, hy (oSt a)]
  unfold sortO
  rw [puts_first l List.Pairwise.nil a, List.nil_append]
  exact ⟨fun q => q.2, fun q => ⟨fun e => (nomatch e), q⟩⟩

end Go.Proofs.YtbkijfhfjhpebaaGreatDoor.GraphMath

/-
  The code of package fold: its closures; a row of the call's own, sorted so that equal stamps stay in turn, and the first one of each stamp alone.
-/
namespace Go.Proofs.YtbkijfhfjhpebaaGreatDoor
open Go.RowKit Go.Shelf Go.Sort StampMath GraphMath OpMath PackMath StableM

/-- The slice is a row of the call's own, made since there were b blocks. -/
def Made (b : Nat) (W : World) (A : Option Addr) (c : Nat) (x : List Opn) : Prop :=
  (A = none → c = 0) ∧ W.ownsRow b 56 13 (.slice A x.length c) x.length (flat (x.map opA))

theorem Made.lower {b b' : Nat} {W : World} {A : Option Addr} {c : Nat} {x : List Opn} (h : Made b W A c x) (hb : b' ≤ b) : Made b' W A c x := ⟨h.1, own_lower h.2 hb⟩

/-- Operations are answered, in a row of the call's own. -/
def OpsMade (b : Nat) (x : List Opn) (w : World) (e : Ending) (w' : World) : Prop :=
  ∃ (A : Option Addr) (c : Nat), e = .returned (.slice A x.length c) ∧ OpsIn w' w'.heap.size A x.length x ∧ x.length ≤ c ∧ c ≤ maxLen ∧ Made b w' A c x ∧ Below w.heap.size w w'

theorem OpsMade.lower {b b' : Nat} {x : List Opn} {w w' : World} {e : Ending} (h : OpsMade b x w e w') (hb : b' ≤ b) : OpsMade b' x w e w' := by
  obtain ⟨A, c, h1, h2, h3, h4, h5, h6⟩ := h
  exact ⟨A, c, h1, h2, h3, h4, h5.lower hb, h6⟩

/-- A row of the call's own, read, and its own still. -/
theorem ops_made {W : World} {base : Nat} {v : Value} {n : Nat} {l : List Opn} (hn : l.length = n) (h : W.ownsRow base 56 13 v n (flat (l.map opA))) :
    ∃ (A : Option Addr) (c : Nat), v = .slice A n c ∧ OpsIn W W.heap.size A n l ∧ n ≤ c ∧ c ≤ maxLen ∧ Made base W A c l := by
  subst hn
  obtain ⟨A, c, rfl, h1, h2, h3, h4⟩ := ops_own rfl h
  exact ⟨A, c, rfl, h1, h2, h3, h4, h⟩

/-- What a zero operation is. -/
def noOpn : Opn := ⟨0, 0, 0, 0, 0, 0, 0, 0, 0, ⟨#[]⟩, ⟨#[]⟩, 0, ⟨#[]⟩⟩

instance : Inhabited Opn := ⟨noOpn⟩

/-- An operation's cells. -/
def opE (o : Opn) : List Value := (opA o).toList

theorem opE_len (o : Opn) : (opE o).length = 13 := rfl

/-- Which of two operations' stamps is first. -/
def cmpO (x y : Opn) : Int := cmp x.st x.sr y.st y.sr

theorem cmpO_lt (x y : Opn) : ltOf cmpO x y = lessS (oSt x) (oSt y) := by
  have h := cmp_lt (oSt x) (oSt y)
  unfold ltOf
  cases q : lessS (oSt x) (oSt y) with
  | true => exact decide_eq_true (h.2 q)
  | false => exact decide_eq_false fun e => by rw [h.1 e] at q; cases q

set_option maxRecDepth 100000 in
theorem sort1_grown (x y : Opn) (w : World) :
    Calls Tryz.prog 60 #[.agg (opA x), .agg (opA y)] w fun e w' => e = .returned (.int .i64 (cmpO x y)) ∧ Grown w w' := by
  have HC : Hid (∀ W : World, Calls Tryz.prog 24 #[.agg #[.int .i64 x.st, .int .i64 x.sr], .agg #[.int .i64 y.st, .int .i64 y.sr]] W fun e w' => e = .returned (.int .i64 (cmpO x y)) ∧ Grown W w') := fun W => compare_grown _ _ _ _ W
  have hH : Held w [(w.heap.size + 1, .cells (opA y) 56), (w.heap.size, .cells (opA x) 56)] ((w.alloc (.cells (opA x) 56)).alloc (.cells (opA y) 56)) :=
    ((Held.refl w).alloc (.cells (opA x) 56) rfl).alloc (.cells (opA y) 56) (by simp)
  have HG : Hid (Grown w ((w.alloc (.cells (opA x) 56)).alloc (.cells (opA y) 56))) := ((Grown.refl w).alloc _).alloc _
  go_enter Tryz.func60, Tryz.ntmps60
  go_upto_region 1 with fail
  generalize (w.alloc (.cells (opA x) 56)).alloc (.cells (opA y) 56) = w1 at hH HG ⊢
  obtain ⟨a0, a1, _⟩ := op_cells (hH.at 1 rfl)
  obtain ⟨b0, b1, _⟩ := op_cells (hH.at 0 rfl)
  clear hH
  go_wp2_with fail
  refine (HC.out _).mono ?_
  rintro e w2 ⟨rfl, hg⟩
  clear a0 a1 b0 b1
  go_wp2_with fail
  go_ret
  exact ⟨rfl, HG.out.trans hg⟩

set_option maxRecDepth 100000 in
theorem sort2_grown (x y : Opn) (w : World) :
    Calls Tryz.prog 62 #[.agg (opA x), .agg (opA y)] w fun e w' => e = .returned (.bool (decide (oSt x = oSt y))) ∧ Grown w w' := by
  have hv : ∀ W : World, (Op.equalIn 10000 24 (.agg #[.int .i64 x.st, .int .i64 x.sr]) (.agg #[.int .i64 y.st, .int .i64 y.sr])).run Tryz.prog W = .ok (decide (oSt x = oSt y)) W := fun W => run_eqSt _ _ _ _ W
  have hH : Held w [(w.heap.size + 1, .cells (opA y) 56), (w.heap.size, .cells (opA x) 56)] ((w.alloc (.cells (opA x) 56)).alloc (.cells (opA y) 56)) :=
    ((Held.refl w).alloc (.cells (opA x) 56) rfl).alloc (.cells (opA y) 56) (by simp)
  have HG : Hid (Grown w ((w.alloc (.cells (opA x) 56)).alloc (.cells (opA y) 56))) := ((Grown.refl w).alloc _).alloc _
  generalize decide (oSt x = oSt y) = q at hv ⊢
  go_enter Tryz.func62, Tryz.ntmps62
  go_upto_region 1 with fail
  generalize (w.alloc (.cells (opA x) 56)).alloc (.cells (opA y) 56) = w1 at hH HG ⊢
  obtain ⟨a0, a1, _⟩ := op_cells (hH.at 1 rfl)
  obtain ⟨b0, b1, _⟩ := op_cells (hH.at 0 rfl)
  clear hH
  go_wp2_with fail
  clear a0 a1 b0 b1
  go_ret
  exact ⟨rfl, HG.out⟩

/-- What is told of a row of the call's own, at its cells. -/
theorem row_of_own {w : World} {b : Nat} {e : TypeId} {cur : Array Value} {xs : List Opn} (hg : w.heap[b]? = some (.cells cur e (0, 0))) (ht : cur.toList.take (xs.length * 13) = flat (xs.map opA)) : RowK opE 13 w b 0 xs.toArray where
  hk := opE_len
  h1 := fun x => op_cells1 x
  hH := by
    have fl : (flat (xs.map opA)).length = xs.length * 13 := by
      have := flat_len (k := 13) (rows := xs.map opA) fun r hr => by obtain ⟨o, _, rfl⟩ := List.mem_map.1 hr; rfl
      rwa [List.length_map] at this
    show Holds id w b 0 (flatK (fun x => (opA x).toList) 13 xs.toArray)
    rw [flatK_flat opA (fun _ => rfl)]
    exact own_holds hg (by simpa [fl] using ht)
  hblk := heap_lt hg

/-- A row behind a sort's writes is the call's own still. -/
theorem own_of_row {w w' : World} {base b cap : Nat} {e : TypeId} {cur : Array Value} {n : Nat} (hb : base ≤ b) (hg : w.heap[b]? = some (.cells cur e (0, 0))) (hc1 : n ≤ cap) (hc2 : cap ≤ maxLen) (hcs : cur.size = cap * 13) {d : Array Opn} (hd : d.size ≤ cap) (S : SWK opE 13 w b 0 d w') {ys : List Opn} (hy : d.toList.take n = ys) (hn : ys.length = n) :
    w'.ownsRow base e 13 (.slice (some ⟨b, 0, none⟩) n cap) n (flat (ys.map opA)) ∧ But (fun i => b = i) w w' := by
  obtain ⟨q, os, rfl⟩ := S
  have fl : ∀ l : List Opn, (flat (l.map opA)).length = l.length * 13 := fun l => by
    have := flat_len (k := 13) (rows := l.map opA) fun r hr => by obtain ⟨o, _, rfl⟩ := List.mem_map.1 hr; rfl
    rwa [List.length_map] at this
  have hF : flatK opE 13 d = (flat (d.toList.map opA)).toArray := by
    have := flatK_flat opA (k := 13) (fun _ => rfl) d.toList
    rwa [Array.toArray_toList] at this
  have hle : (flatK opE 13 d).size ≤ cur.size := by
    rw [size_flatK, hcs]
    exact Nat.mul_le_mul_right 13 hd
  constructor
  · refine ⟨by rw [fl, hn], Or.inr ⟨b, cap, putCells id 0 (flatK opE 13 d) cur, rfl, hb, ?_, hc1, hc2, by simpa [putCells] using hcs, ?_⟩⟩
    · unfold sortWorldK
      rw [heap_grow_old _ _ (by rw [size_putRowK]; exact heap_lt hg)]
      simp [putRowK, putRow, mapBlock, Array.getElem?_modify, hg, onCells]
    · have e2 := putCells_take _ cur hle
      rw [size_flatK] at e2
      have hnd : n ≤ d.size := by
        have := congrArg List.length hy
        rw [List.length_take, Array.length_toList, hn] at this
        omega
      have e3 := congrArg (List.take (n * 13)) e2
      rw [List.take_take, Nat.min_eq_left (Nat.mul_le_mul_right 13 hnd)] at e3
      refine e3.trans ?_
      rw [hF, ← hy]
      have e4 : d.toList = d.toList.take n ++ d.toList.drop n := (List.take_append_drop n _).symm
      conv => lhs; rw [e4]
      rw [List.map_append, flat_append]
      have e5 : (flat ((d.toList.take n).map opA)).length = n * 13 := by rw [fl, hy, hn]
      rw [← e5]
      simp
  · unfold sortWorldK
    refine ⟨rfl, rfl, rfl, ?_, fun i hi hne => ?_⟩
    · rw [size_grow, size_putRowK]
      exact Nat.le_add_right _ _
    · rw [heap_grow_old _ _ (by rw [size_putRowK]; exact hi)]
      simp [putRowK, putRow, mapBlock, Array.getElem?_modify, hne]

theorem eq_first (x : Opn) : (opE x).toArray = opA x := by simp [opE]

/-- The library's insertion sort, at a piece of a row. -/
theorem ins_piece (b cap : Nat) (d0 : Array Opn) (w0 : World) (R : RowK opE 13 w0 b 0 d0) (hsz : d0.size < 1000000000) (d : Array Opn) (W : World) (a c : Nat) (p x z : List Opn) (hs : d.size = d0.size) (S : SWK opE 13 w0 b 0 d W) (hd : d.toList = p ++ x ++ z) (ha : a = p.length) (hc : c = p.length + x.length) :
    Calls Tryz.prog 115 #[.slice (some ⟨b, 0, none⟩) d0.size cap, .int .i64 a, .int .i64 c, .func (.func 60) #[] #[]] W (Piece opE 13 w0 b 0 d0.size oSt lessS p x z) := by
  have hff : ltOf cmpO = fun x y => lessS (oSt x) (oSt y) := by funext x y; exact cmpO_lt x y
  have hO : SWO (ltOf cmpO) := by rw [hff]; exact lin_less.swo oSt
  have hl : p.length + x.length + z.length = d.size := by rw [← Array.length_toList, hd]; simp; omega
  have h := AnyQ.insertionSortCmpFunc_w Tryz.insOp 13 Tryz.isAgg56 Tryz.sizeOf56 opE cmpO 60 #[] b 0 cap a c d0 d w0 W (enters_of Tryz.func60 (by kernel_rfl) rfl)
    (fun m os dk _ x y => by rw [eq_first, eq_first]; exact (sort1_grown x y _).mono fun _ _ h => ⟨h.1, h.2.grow⟩) R hs.symm S hO (by omega) (by omega) (by omega)
  rw [hs] at h
  obtain ⟨y, e1, e2, e3, e4⟩ := insertion_list (key := oSt) lin_less cmpO_lt d hd a c ha hc
  refine h.mono ?_
  rintro e w' ⟨he, S'⟩
  exact ⟨he, _, y, by rw [(insertionSort_holds hO d a c (by omega) (by omega)).1.1, hs], e1, e2, e3, e4, S'⟩

theorem lessS_cmp : ∀ x y : Opn, ltOf cmpO x y = lessS (oSt x) (oSt y) := cmpO_lt

/-- slices.SortStableFunc's own, at a row of the call's own. -/
theorem stable_some {w : World} {base b cap n : Nat} {e : TypeId} {cur : Array Value} {xs : List Opn} (hn : xs.length = n) (hb : base ≤ b) (hg : w.heap[b]? = some (.cells cur e (0, 0))) (hc1 : n ≤ cap) (hc2 : cap ≤ maxLen) (hcs : cur.size = cap * 13) (ht : cur.toList.take (n * 13) = flat (xs.map opA)) (hsz : n < 1000000000) :
    Calls Tryz.prog 84 #[.slice (some ⟨b, 0, none⟩) n cap, .int .i64 n, .func (.func 60) #[] #[]] w fun r w' => r = .returned (.tuple #[]) ∧ ∃ ys : List Opn, ys.length = n ∧ SameK oSt ys xs ∧ Up oSt lessS ys ∧ w'.ownsRow base e 13 (.slice (some ⟨b, 0, none⟩) n cap) n (flat (ys.map opA)) ∧ But (fun i => b = i) w w' := by
  subst hn
  have R := row_of_own hg ht
  have hsz' : xs.toArray.size < 1000000000 := by simpa using hsz
  have hC : CmpLays Tryz.prog 60 #[] opE 13 cmpO b 0 xs.toArray.size w := fun m os dk _ x y => by rw [eq_first, eq_first]; exact (sort1_grown x y _).mono fun _ _ h => ⟨h.1, h.2.grow⟩
  have h := stable_in (key := oSt) (lt := lessS) sort_in opE (.func (.func 60) #[] #[]) b 0 cap xs.toArray w hsz' (enters_of Tryz.func115 (by kernel_rfl) rfl)
    (fun d W a c p x z hs S hd ha hc => ins_piece b cap xs.toArray w R hsz' d W a c p x z hs S hd ha hc)
    (fun d W a m c p l r z hs S hd ha hm hc hl hr hul hur => merge_in sort_in lin_less opE cmpO cmpO_lt 60 #[] (enters_of Tryz.func60 (by kernel_rfl) rfl) b 0 cap xs.toArray w hC R (by omega) (c - a) d W a m c p l r z (Nat.le_refl _) hs S hd ha hm hc hl hr hul hur)
    xs.length (by simp) w (SWK.start R.hH)
  rw [List.size_toArray] at h
  refine h.mono ?_
  rintro r w' ⟨rfl, d', h1, h2, h3, S⟩
  rw [List.size_toArray] at h1
  have hl : d'.toList.length = xs.length := by simpa using h1
  have hd : d'.size ≤ cap := by rw [← Array.length_toList, hl]; exact hc1
  refine ⟨rfl, d'.toList, hl, by simpa using h2, h3, ?_⟩
  exact own_of_row hb hg hc1 hc2 hcs hd S (List.take_of_length_le (Nat.le_of_eq hl)) hl

end Go.Proofs.YtbkijfhfjhpebaaGreatDoor

/-
  The landed apply: why an inode can't be made, or have one entry more.
-/
namespace Go.Proofs.YtbkijfhfjhpebaaGreatDoor
open Go.RowKit StampMath GraphMath OpMath PackMath

set_option maxRecDepth 100000 in
set_option maxHeartbeats 3200000 in
theorem whyMake_code (H : GraphHave) (a : Addr) (S : Nat → Prop) (g : Gr) (o : Opn) (w : World) (h : H.rep w S a g) (hg : g.ok) (hm : mayO o = true) (hk : o.k ≤ 3) (hn : o.name.size ≤ maxLen) :
    Calls Tryz.prog 117 #[.agg (deedA a o)] w fun e w' => e = .returned (.int .i64 (whyA g o)) ∧ Below w.heap.size w w' := by
  obtain ⟨r, hr⟩ : ∃ r, r = whyA g o := ⟨_, rfl⟩
  rw [← hr]
  obtain ⟨xa, hxa⟩ : ∃ xa, xa = (getG g (oAt o)).getD noIno := ⟨_, rfl⟩
  obtain ⟨ba, hba⟩ : ∃ ba, ba = (getG g (oAt o)).isSome := ⟨_, rfl⟩
  obtain ⟨t, ht⟩ : ∃ t, t = (lookE g.E (oAt o) o.name).getD (0, 0) := ⟨_, rfl⟩
  obtain ⟨bn, hbn⟩ : ∃ bn, bn = (lookE g.E (oAt o) o.name).isSome := ⟨_, rfl⟩
  obtain ⟨xs, hxs⟩ : ∃ xs, xs = (getG g (oSt o)).getD noIno := ⟨_, rfl⟩
  obtain ⟨bi, hbi⟩ : ∃ bi, bi = (getG g (oSt o)).isSome := ⟨_, rfl⟩
  obtain ⟨kd, hkd⟩ : ∃ kd, kd = (xa.kind == 1) := ⟨_, rfl⟩
  obtain ⟨n, hn'⟩ : ∃ n, n = g.I.length := ⟨_, rfl⟩
  have GA : Hid (∀ W : World, Below w.heap.size w W → Calls Tryz.prog 12 #[.pointer (some a), .agg #[.int .i64 o.pt, .int .i64 o.pr]] W fun e w' => e = .returned (.tuple #[.agg #[.int .i64 xa.id.1, .int .i64 xa.id.2, .int .i64 xa.kind, .int .i64 xa.links, .int .i64 xa.mode, .string xa.data], .bool ba]) ∧ Below W.heap.size W w') := Lib.hid fun W hW => by
    rw [hxa, hba]
    exact H.get a S g (oAt o) W (rep_below h hW) hg
  have LK : Hid (∀ W : World, Below w.heap.size w W → Calls Tryz.prog 15 #[.pointer (some a), .agg #[.int .i64 o.pt, .int .i64 o.pr], .string o.name] W fun e w' => e = .returned (.tuple #[.agg #[.int .i64 t.1, .int .i64 t.2], .bool bn]) ∧ Below W.heap.size W w') := Lib.hid fun W hW => by
    rw [ht, hbn]
    exact H.look a S g (oAt o) o.name W (rep_below h hW) hg hn
  have GS : Hid (∀ W : World, Below w.heap.size w W → Calls Tryz.prog 12 #[.pointer (some a), .agg #[.int .i64 o.st, .int .i64 o.sr]] W fun e w' => e = .returned (.tuple #[.agg #[.int .i64 xs.id.1, .int .i64 xs.id.2, .int .i64 xs.kind, .int .i64 xs.links, .int .i64 xs.mode, .string xs.data], .bool bi]) ∧ Below W.heap.size W w') := Lib.hid fun W hW => by
    rw [hxs, hbi]
    exact H.get a S g (oSt o) W (rep_below h hW) hg
  have DA : Hid (∀ W : World, Below w.heap.size w W → Calls Tryz.prog 147 #[.agg #[.int .i64 xa.id.1, .int .i64 xa.id.2, .int .i64 xa.kind, .int .i64 xa.links, .int .i64 xa.mode, .string xa.data]] W fun e w' => e = .returned (.bool kd) ∧ Below W.heap.size W w') := Lib.hid fun W hW => by
    rw [hkd]
    exact dirQ_code xa W
  have IN : Hid (∀ W : World, Below w.heap.size w W → Calls Tryz.prog 11 #[.pointer (some a)] W fun e w' => ∃ B c, e = .returned (.slice B n c) ∧ Below W.heap.size W w') := Lib.hid fun W hW => by
    rw [hn']
    refine (H.inodes a S g W (rep_below h hW) hg).mono ?_
    rintro e w' ⟨v, rfl, hown, hb⟩
    obtain ⟨B, c, rfl, _⟩ := inos_own rfl hown
    exact ⟨B, c, by rw [hg.inodes, List.length_map], hb⟩
  have hr2 : r = if ba = false then 3 else if kd = false then 6 else if bn = true ∨ bi = true then 4 else if (40 : Int) ≤ (n : Int) then 13 else 0 := by
    rw [hr, make_why hg hm hk, ← hxa, ← hba, ← hbn, ← hbi, ← hn', hkd]
    unfold makeB
    simp
  have HR := Lib.hid hr2
  have hH0 : Held w [(w.heap.size, .cells (deedA a o) 110)] (w.alloc (.cells (deedA a o) 110)) := (Held.refl w).alloc (.cells (deedA a o) 110) rfl
  clear h hr hr2 hxa hba ht hbn hxs hbi hkd hn' hg hm hk hn
  go_enter Tryz.func117, Tryz.ntmps117
  go_upto_region 1 with fail
  change Code.wp _ _ _ _ (w.alloc (.cells (deedA a o) 110))
  generalize w.alloc (.cells (deedA a o) 110) = v0 at hH0 ⊢
  obtain ⟨d0, d1, d2, d3, d4, d5, d6, d7, d8, d9, d10, d11, d12, d13⟩ := deed_cells (g := w.heap.size) (hH0.at 0 rfl)
  go_wp2_with fail
  refine (GA.out _ hH0.below).mono ?_
  rintro e y0 ⟨rfl, hb0⟩
  have hH1 := hH0.step hb0
  clear hH0 hb0 d0 d1 d2 d3 d4 d5 d6 d7 d8 d9 d10 d11 d12 d13 GA
  go_upto_region 2 with fail
  obtain ⟨u0, hu0⟩ : ∃ u, u = y0.heap.size := ⟨_, rfl⟩
  have hl0 : w.heap.size < u0 := by rw [hu0]; exact heap_lt (hH1.at 0 rfl)
  have hH2 := hH1.alloc (.cells (inoA xa) 32) hu0.symm
  change Code.wp _ _ _ _ (y0.alloc (.cells (inoA xa) 32))
  rw [← hu0]
  generalize y0.alloc (.cells (inoA xa) 32) = v1 at hH2 ⊢
  clear hH1 hu0
  obtain ⟨d0, d1, d2, d3, d4, d5, d6, d7, d8, d9, d10, d11, d12, d13⟩ := deed_cells (g := w.heap.size) (hH2.at 1 rfl)
  go_wp2_with fail
  refine (LK.out _ hH2.below).mono ?_
  rintro e y1 ⟨rfl, hb1⟩
  have hH3 := hH2.step hb1
  clear hH2 hb1 d0 d1 d2 d3 d4 d5 d6 d7 d8 d9 d10 d11 d12 d13 LK
  go_upto_region 3 with fail
  obtain ⟨u1, hu1⟩ : ∃ u, u = y1.heap.size := ⟨_, rfl⟩
  have hl1 : w.heap.size < u1 := by rw [hu1]; exact heap_lt (hH3.at 1 rfl)
  have hH4 := hH3.alloc (.cells (stA t) 24) hu1.symm
  change Code.wp _ _ _ _ (y1.alloc (.cells (stA t) 24))
  rw [← hu1]
  generalize y1.alloc (.cells (stA t) 24) = v2 at hH4 ⊢
  clear hH3 hu1
  obtain ⟨d0, d1, d2, d3, d4, d5, d6, d7, d8, d9, d10, d11, d12, d13⟩ := deed_cells (g := w.heap.size) (hH4.at 2 rfl)
  go_wp2_with fail
  refine (GS.out _ hH4.below).mono ?_
  rintro e y2 ⟨rfl, hb2⟩
  have hH5 := hH4.step hb2
  clear hH4 hb2 d0 d1 d2 d3 d4 d5 d6 d7 d8 d9 d10 d11 d12 d13 GS
  go_upto_region 4 with fail
  obtain ⟨u2, hu2⟩ : ∃ u, u = y2.heap.size := ⟨_, rfl⟩
  have hl2 : w.heap.size < u2 := by rw [hu2]; exact heap_lt (hH5.at 2 rfl)
  have hH6 := hH5.alloc (.cells (inoA xs) 32) hu2.symm
  change Code.wp _ _ _ _ (y2.alloc (.cells (inoA xs) 32))
  rw [← hu2]
  generalize y2.alloc (.cells (inoA xs) 32) = v3 at hH6 ⊢
  clear hH5 hu2
  have O := Lib.hid (fun y => deed_cells (g := w.heap.size) (((later_below v3 y).block _ (heap_lt (hH6.at 3 rfl))).trans (hH6.at 3 rfl)))
  have d0 := fun y => (O.out y).1
  have d1 := fun y => (O.out y).2.1
  have d2 := fun y => (O.out y).2.2.1
  have d3 := fun y => (O.out y).2.2.2.1
  have d4 := fun y => (O.out y).2.2.2.2.1
  have d5 := fun y => (O.out y).2.2.2.2.2.1
  have d6 := fun y => (O.out y).2.2.2.2.2.2.1
  have d7 := fun y => (O.out y).2.2.2.2.2.2.2.1
  have d8 := fun y => (O.out y).2.2.2.2.2.2.2.2.1
  have d9 := fun y => (O.out y).2.2.2.2.2.2.2.2.2.1
  have d10 := fun y => (O.out y).2.2.2.2.2.2.2.2.2.2.1
  have d11 := fun y => (O.out y).2.2.2.2.2.2.2.2.2.2.2.1
  have d12 := fun y => (O.out y).2.2.2.2.2.2.2.2.2.2.2.2.1
  have d13 := fun y => (O.out y).2.2.2.2.2.2.2.2.2.2.2.2.2
  have X0 := Lib.hid (fun y => ino_cells (g := u0) (((later_below v3 y).block _ (heap_lt (hH6.at 2 rfl))).trans (hH6.at 2 rfl)))
  have x00 := fun y => (X0.out y).1
  have x01 := fun y => (X0.out y).2.1
  have x02 := fun y => (X0.out y).2.2.1
  have x03 := fun y => (X0.out y).2.2.2.1
  have x04 := fun y => (X0.out y).2.2.2.2.1
  have x05 := fun y => (X0.out y).2.2.2.2.2
  clear X0
  have X2 := Lib.hid (fun y => ino_cells (g := u2) (((later_below v3 y).block _ (heap_lt (hH6.at 0 rfl))).trans (hH6.at 0 rfl)))
  have x20 := fun y => (X2.out y).1
  have x21 := fun y => (X2.out y).2.1
  have x22 := fun y => (X2.out y).2.2.1
  have x23 := fun y => (X2.out y).2.2.2.1
  have x24 := fun y => (X2.out y).2.2.2.2.1
  have x25 := fun y => (X2.out y).2.2.2.2.2
  clear X2
  have HB := Lib.hid hH6.below
  have DA' : Hid (∀ y, Calls Tryz.prog 147 #[.agg #[.int .i64 xa.id.1, .int .i64 xa.id.2, .int .i64 xa.kind, .int .i64 xa.links, .int .i64 xa.mode, .string xa.data]] (later v3 y) fun e w' => e = .returned (.bool kd) ∧ ∃ z, w' = later v3 z) := Lib.hid fun y => later_call (DA.out _ (below_step HB.out (later_below v3 y)))
  have IN' : Hid (∀ y, Calls Tryz.prog 11 #[.pointer (some a)] (later v3 y) fun e w' => ∃ B c, e = .returned (.slice B n c) ∧ ∃ z, w' = later v3 z) := Lib.hid fun y => (IN.out _ (below_step HB.out (later_below v3 y))).mono fun _ w' ⟨B, c, he, hb⟩ => ⟨B, c, he, w', (later_of (below_step (later_below v3 y) hb)).symm⟩
  rw [show v3 = later v3 v3 from (later_of (Below.refl _ _)).symm]
  clear hH6 O DA IN
  go_wp2_with fail
  iterate 5
    all_goals first
      | ((fail_if_success (go_at_call 147)); (fail_if_success (go_at_call 11)); go_ret; exact ⟨by rw [HR.out]; clear d0 d1 d2 d3 d4 d5 d6 d7 d8 d9 d10 d11 d12 d13 x00 x01 x02 x03 x04 x05 x20 x21 x22 x23 x24 x25 DA' IN' HB HR; simp_all, below_step HB.out (later_below v3 _)⟩)
      | (go_at_call 147; (with_reducible refine (DA'.out _).mono ?_); rintro z w5 ⟨rfl, y5, rfl⟩; go_wp2_with fail)
      | (go_at_call 11; (with_reducible refine (IN'.out _).mono ?_); rintro z w5 ⟨B, c, rfl, y5, rfl⟩; go_wp2_with fail)
      | skip

set_option maxRecDepth 100000 in
set_option maxHeartbeats 3200000 in
theorem whyLink_code (H : GraphHave) (a : Addr) (S : Nat → Prop) (g : Gr) (o : Opn) (w : World) (h : H.rep w S a g) (hg : g.ok) (hm : mayO o = true) (hk : o.k = 4) (hn : o.name.size ≤ maxLen) :
    Calls Tryz.prog 118 #[.agg (deedA a o)] w fun e w' => e = .returned (.int .i64 (whyA g o)) ∧ Below w.heap.size w w' := by
  obtain ⟨r, hr⟩ : ∃ r, r = whyA g o := ⟨_, rfl⟩
  rw [← hr]
  obtain ⟨xa, hxa⟩ : ∃ xa, xa = (getG g (oAt o)).getD noIno := ⟨_, rfl⟩
  obtain ⟨ba, hba⟩ : ∃ ba, ba = (getG g (oAt o)).isSome := ⟨_, rfl⟩
  obtain ⟨xi, hxi⟩ : ∃ xi, xi = (getG g (oIno o)).getD noIno := ⟨_, rfl⟩
  obtain ⟨bx, hbx⟩ : ∃ bx, bx = (getG g (oIno o)).isSome := ⟨_, rfl⟩
  obtain ⟨t, ht⟩ : ∃ t, t = (lookE g.E (oAt o) o.name).getD (0, 0) := ⟨_, rfl⟩
  obtain ⟨bn, hbn⟩ : ∃ bn, bn = (lookE g.E (oAt o) o.name).isSome := ⟨_, rfl⟩
  obtain ⟨kd, hkd⟩ : ∃ kd, kd = (xa.kind == 1) := ⟨_, rfl⟩
  obtain ⟨ki, hki⟩ : ∃ ki, ki = (xi.kind == 1) := ⟨_, rfl⟩
  have GA : Hid (∀ W : World, Below w.heap.size w W → Calls Tryz.prog 12 #[.pointer (some a), .agg #[.int .i64 o.pt, .int .i64 o.pr]] W fun e w' => e = .returned (.tuple #[.agg #[.int .i64 xa.id.1, .int .i64 xa.id.2, .int .i64 xa.kind, .int .i64 xa.links, .int .i64 xa.mode, .string xa.data], .bool ba]) ∧ Below W.heap.size W w') := Lib.hid fun W hW => by
    rw [hxa, hba]
    exact H.get a S g (oAt o) W (rep_below h hW) hg
  have GI : Hid (∀ W : World, Below w.heap.size w W → Calls Tryz.prog 12 #[.pointer (some a), .agg #[.int .i64 o.it, .int .i64 o.ir]] W fun e w' => e = .returned (.tuple #[.agg #[.int .i64 xi.id.1, .int .i64 xi.id.2, .int .i64 xi.kind, .int .i64 xi.links, .int .i64 xi.mode, .string xi.data], .bool bx]) ∧ Below W.heap.size W w') := Lib.hid fun W hW => by
    rw [hxi, hbx]
    exact H.get a S g (oIno o) W (rep_below h hW) hg
  have LK : Hid (∀ W : World, Below w.heap.size w W → Calls Tryz.prog 15 #[.pointer (some a), .agg #[.int .i64 o.pt, .int .i64 o.pr], .string o.name] W fun e w' => e = .returned (.tuple #[.agg #[.int .i64 t.1, .int .i64 t.2], .bool bn]) ∧ Below W.heap.size W w') := Lib.hid fun W hW => by
    rw [ht, hbn]
    exact H.look a S g (oAt o) o.name W (rep_below h hW) hg hn
  have DA : Hid (∀ W : World, Below w.heap.size w W → Calls Tryz.prog 147 #[.agg #[.int .i64 xa.id.1, .int .i64 xa.id.2, .int .i64 xa.kind, .int .i64 xa.links, .int .i64 xa.mode, .string xa.data]] W fun e w' => e = .returned (.bool kd) ∧ Below W.heap.size W w') := Lib.hid fun W hW => by
    rw [hkd]
    exact dirQ_code xa W
  have DI : Hid (∀ W : World, Below w.heap.size w W → Calls Tryz.prog 147 #[.agg #[.int .i64 xi.id.1, .int .i64 xi.id.2, .int .i64 xi.kind, .int .i64 xi.links, .int .i64 xi.mode, .string xi.data]] W fun e w' => e = .returned (.bool ki) ∧ Below W.heap.size W w') := Lib.hid fun W hW => by
    rw [hki]
    exact dirQ_code xi W
  have hr2 : r = if ba = false ∨ bx = false then 3 else if kd = false then 6 else if ki = true then 5 else if bn = true then 4 else if (6 : Int) ≤ xi.links then 12 else 0 := by
    rw [hr, link_why' hg hm hk, ← hxa, ← hba, ← hxi, ← hbx, ← hbn, hkd, hki]
    unfold linkB
    simp
  have HR := Lib.hid hr2
  have hH0 : Held w [(w.heap.size, .cells (deedA a o) 110)] (w.alloc (.cells (deedA a o) 110)) := (Held.refl w).alloc (.cells (deedA a o) 110) rfl
  clear h hr hr2 hxa hba hxi hbx ht hbn hkd hki hg hm hk hn
  go_enter Tryz.func118, Tryz.ntmps118
  go_upto_region 1 with fail
  change Code.wp _ _ _ _ (w.alloc (.cells (deedA a o) 110))
  generalize w.alloc (.cells (deedA a o) 110) = v0 at hH0 ⊢
  obtain ⟨d0, d1, d2, d3, d4, d5, d6, d7, d8, d9, d10, d11, d12, d13⟩ := deed_cells (g := w.heap.size) (hH0.at 0 rfl)
  go_wp2_with fail
  refine (GA.out _ hH0.below).mono ?_
  rintro e y0 ⟨rfl, hb0⟩
  have hH1 := hH0.step hb0
  clear hH0 hb0 d0 d1 d2 d3 d4 d5 d6 d7 d8 d9 d10 d11 d12 d13 GA
  go_upto_region 2 with fail
  obtain ⟨u0, hu0⟩ : ∃ u, u = y0.heap.size := ⟨_, rfl⟩
  have hl0 : w.heap.size < u0 := by rw [hu0]; exact heap_lt (hH1.at 0 rfl)
  have hH2 := hH1.alloc (.cells (inoA xa) 32) hu0.symm
  change Code.wp _ _ _ _ (y0.alloc (.cells (inoA xa) 32))
  rw [← hu0]
  generalize y0.alloc (.cells (inoA xa) 32) = v1 at hH2 ⊢
  clear hH1 hu0
  obtain ⟨d0, d1, d2, d3, d4, d5, d6, d7, d8, d9, d10, d11, d12, d13⟩ := deed_cells (g := w.heap.size) (hH2.at 1 rfl)
  go_wp2_with fail
  refine (GI.out _ hH2.below).mono ?_
  rintro e y1 ⟨rfl, hb1⟩
  have hH3 := hH2.step hb1
  clear hH2 hb1 d0 d1 d2 d3 d4 d5 d6 d7 d8 d9 d10 d11 d12 d13 GI
  go_upto_region 3 with fail
  obtain ⟨u1, hu1⟩ : ∃ u, u = y1.heap.size := ⟨_, rfl⟩
  have hl1 : w.heap.size < u1 := by rw [hu1]; exact heap_lt (hH3.at 1 rfl)
  have hH4 := hH3.alloc (.cells (inoA xi) 32) hu1.symm
  change Code.wp _ _ _ _ (y1.alloc (.cells (inoA xi) 32))
  rw [← hu1]
  generalize y1.alloc (.cells (inoA xi) 32) = v2 at hH4 ⊢
  clear hH3 hu1
  obtain ⟨d0, d1, d2, d3, d4, d5, d6, d7, d8, d9, d10, d11, d12, d13⟩ := deed_cells (g := w.heap.size) (hH4.at 2 rfl)
  go_wp2_with fail
  refine (LK.out _ hH4.below).mono ?_
  rintro e y2 ⟨rfl, hb2⟩
  have hH5 := hH4.step hb2
  clear hH4 hb2 d0 d1 d2 d3 d4 d5 d6 d7 d8 d9 d10 d11 d12 d13 LK
  go_upto_region 4 with fail
  obtain ⟨u2, hu2⟩ : ∃ u, u = y2.heap.size := ⟨_, rfl⟩
  have hl2 : w.heap.size < u2 := by rw [hu2]; exact heap_lt (hH5.at 2 rfl)
  have hH6 := hH5.alloc (.cells (stA t) 24) hu2.symm
  change Code.wp _ _ _ _ (y2.alloc (.cells (stA t) 24))
  rw [← hu2]
  generalize y2.alloc (.cells (stA t) 24) = v3 at hH6 ⊢
  clear hH5 hu2
  have O := Lib.hid (fun y => deed_cells (g := w.heap.size) (((later_below v3 y).block _ (heap_lt (hH6.at 3 rfl))).trans (hH6.at 3 rfl)))
  have d0 := fun y => (O.out y).1
  have d1 := fun y => (O.out y).2.1
  have d2 := fun y => (O.out y).2.2.1
  have d3 := fun y => (O.out y).2.2.2.1
  have d4 := fun y => (O.out y).2.2.2.2.1
  have d5 := fun y => (O.out y).2.2.2.2.2.1
  have d6 := fun y => (O.out y).2.2.2.2.2.2.1
  have d7 := fun y => (O.out y).2.2.2.2.2.2.2.1
  have d8 := fun y => (O.out y).2.2.2.2.2.2.2.2.1
  have d9 := fun y => (O.out y).2.2.2.2.2.2.2.2.2.1
  have d10 := fun y => (O.out y).2.2.2.2.2.2.2.2.2.2.1
  have d11 := fun y => (O.out y).2.2.2.2.2.2.2.2.2.2.2.1
  have d12 := fun y => (O.out y).2.2.2.2.2.2.2.2.2.2.2.2.1
  have d13 := fun y => (O.out y).2.2.2.2.2.2.2.2.2.2.2.2.2
  have X0 := Lib.hid (fun y => ino_cells (g := u0) (((later_below v3 y).block _ (heap_lt (hH6.at 2 rfl))).trans (hH6.at 2 rfl)))
  have x00 := fun y => (X0.out y).1
  have x01 := fun y => (X0.out y).2.1
  have x02 := fun y => (X0.out y).2.2.1
  have x03 := fun y => (X0.out y).2.2.2.1
  have x04 := fun y => (X0.out y).2.2.2.2.1
  have x05 := fun y => (X0.out y).2.2.2.2.2
  clear X0
  have X1 := Lib.hid (fun y => ino_cells (g := u1) (((later_below v3 y).block _ (heap_lt (hH6.at 1 rfl))).trans (hH6.at 1 rfl)))
  have x10 := fun y => (X1.out y).1
  have x11 := fun y => (X1.out y).2.1
  have x12 := fun y => (X1.out y).2.2.1
  have x13 := fun y => (X1.out y).2.2.2.1
  have x14 := fun y => (X1.out y).2.2.2.2.1
  have x15 := fun y => (X1.out y).2.2.2.2.2
  clear X1
  have HB := Lib.hid hH6.below
  have DA' : Hid (∀ y, Calls Tryz.prog 147 #[.agg #[.int .i64 xa.id.1, .int .i64 xa.id.2, .int .i64 xa.kind, .int .i64 xa.links, .int .i64 xa.mode, .string xa.data]] (later v3 y) fun e w' => e = .returned (.bool kd) ∧ ∃ z, w' = later v3 z) := Lib.hid fun y => later_call (DA.out _ (below_step HB.out (later_below v3 y)))
  have DI' : Hid (∀ y, Calls Tryz.prog 147 #[.agg #[.int .i64 xi.id.1, .int .i64 xi.id.2, .int .i64 xi.kind, .int .i64 xi.links, .int .i64 xi.mode, .string xi.data]] (later v3 y) fun e w' => e = .returned (.bool ki) ∧ ∃ z, w' = later v3 z) := Lib.hid fun y => later_call (DI.out _ (below_step HB.out (later_below v3 y)))
  rw [show v3 = later v3 v3 from (later_of (Below.refl _ _)).symm]
  clear hH6 O DA DI
  go_wp2_with fail
  iterate 5
    all_goals first
      | ((fail_if_success (go_at_call 147)); go_ret; exact ⟨by rw [HR.out]; clear d0 d1 d2 d3 d4 d5 d6 d7 d8 d9 d10 d11 d12 d13 x00 x01 x02 x03 x04 x05 x10 x11 x12 x13 x14 x15 DA' DI' HB HR; simp_all, below_step HB.out (later_below v3 _)⟩)
      | (go_at_call 147; (with_reducible refine (DA'.out _).mono ?_); rintro z w5 ⟨rfl, y5, rfl⟩; go_wp2_with fail)
      | (go_at_call 147; (with_reducible refine (DI'.out _).mono ?_); rintro z w5 ⟨rfl, y5, rfl⟩; go_wp2_with fail)
      | skip

end Go.Proofs.YtbkijfhfjhpebaaGreatDoor

/-
  The landed apply: the inode that an operation's entry is of, and its target's.
-/
namespace Go.Proofs.YtbkijfhfjhpebaaGreatDoor
open Go.RowKit StampMath GraphMath OpMath PackMath

set_option maxRecDepth 100000 in
set_option maxHeartbeats 1600000 in
theorem named_code (H : GraphHave) (a : Addr) (S : Nat → Prop) (g : Gr) (o : Opn) (w : World) (h : H.rep w S a g) (hg : g.ok) (hn : o.name.size ≤ maxLen) :
    Calls Tryz.prog 148 #[.agg (deedA a o)] w fun e w' => e = .returned (.tuple #[.agg (inoA ((namedG g o).getD noIno)), .bool (namedG g o).isSome]) ∧ Below w.heap.size w w' := by
  obtain ⟨t, ht⟩ : ∃ t, t = (lookE g.E (oAt o) o.name).getD (0, 0) := ⟨_, rfl⟩
  obtain ⟨b, hb⟩ : ∃ b, b = (lookE g.E (oAt o) o.name).isSome := ⟨_, rfl⟩
  obtain ⟨x, hx⟩ : ∃ x, x = (getG g (oIno o)).getD noIno := ⟨_, rfl⟩
  obtain ⟨xi, hxi⟩ : ∃ xi, xi = (getG g (oIno o)).isSome := ⟨_, rfl⟩
  have LK : Hid (∀ W : World, Below w.heap.size w W → Calls Tryz.prog 15 #[.pointer (some a), .agg #[.int .i64 o.pt, .int .i64 o.pr], .string o.name] W fun e w' => e = .returned (.tuple #[.agg #[.int .i64 t.1, .int .i64 t.2], .bool b]) ∧ Below W.heap.size W w') := Lib.hid fun W hW => by
    rw [ht, hb]
    exact H.look a S g (oAt o) o.name W (rep_below h hW) hg hn
  have GT : Hid (∀ W : World, Below w.heap.size w W → Calls Tryz.prog 12 #[.pointer (some a), .agg #[.int .i64 o.it, .int .i64 o.ir]] W fun e w' => e = .returned (.tuple #[.agg #[.int .i64 x.id.1, .int .i64 x.id.2, .int .i64 x.kind, .int .i64 x.links, .int .i64 x.mode, .string x.data], .bool xi]) ∧ Below W.heap.size W w') := Lib.hid fun W hW => by
    rw [hx, hxi]
    exact H.get a S g (oIno o) W (rep_below h hW) hg
  have hcase : (b = false ∧ namedG g o = none) ∨ (b = true ∧ ((t.1 == o.it) = false ∨ (t.2 == o.ir) = false) ∧ namedG g o = none) ∨ (b = true ∧ t = (o.it, o.ir) ∧ (namedG g o).getD noIno = x ∧ (namedG g o).isSome = xi) := by
    unfold namedG
    cases hq : lookE g.E (oAt o) o.name with
    | none =>
      rw [hq] at hb
      exact Or.inl ⟨hb, by simp⟩
    | some s =>
      rw [hq] at hb ht
      have ht' : t = s := ht
      by_cases hs : s = oIno o
      · exact Or.inr (Or.inr ⟨hb, by rw [ht', hs]; rfl, by rw [if_pos (by rw [hs]), hx], by rw [if_pos (by rw [hs]), hxi]⟩)
      · refine Or.inr (Or.inl ⟨hb, ?_, if_neg fun q => hs (Option.some.inj q)⟩)
        rw [ht', beq_eq_false_iff_ne, beq_eq_false_iff_ne]
        by_cases h1 : s.1 = o.it
        · exact Or.inr fun h2 => hs (Prod.ext h1 h2)
        · exact Or.inl h1
  obtain ⟨r, hr0⟩ : ∃ r, r = (namedG g o).getD noIno := ⟨_, rfl⟩
  obtain ⟨ri, hri⟩ : ∃ ri, ri = (namedG g o).isSome := ⟨_, rfl⟩
  rw [← hr0, ← hri]
  have hcase : (b = false ∧ r = noIno ∧ ri = false) ∨ (b = true ∧ ((t.1 == o.it) = false ∨ (t.2 == o.ir) = false) ∧ r = noIno ∧ ri = false) ∨ (b = true ∧ t = (o.it, o.ir) ∧ r = x ∧ ri = xi) := by
    rcases hcase with ⟨q1, q2⟩ | ⟨q1, q2, q3⟩ | ⟨q1, q2, q3, q4⟩
    · exact Or.inl ⟨q1, by rw [hr0, q2]; rfl, by rw [hri, q2]; rfl⟩
    · exact Or.inr (Or.inl ⟨q1, q2, by rw [hr0, q3]; rfl, by rw [hri, q3]; rfl⟩)
    · exact Or.inr (Or.inr ⟨q1, q2, by rw [hr0, q3], by rw [hri, q4]⟩)
  clear ht hb hx hxi h hg hn hr0 hri
  have hb0 : Held w [(w.heap.size + 1, .cells (inoA noIno) 32), (w.heap.size, .cells (deedA a o) 110)] ((w.alloc (.cells (deedA a o) 110)).alloc (.cells (inoA noIno) 32)) :=
    ((Held.refl w).alloc (.cells (deedA a o) 110) rfl).alloc (.cells (inoA noIno) 32) (by simp)
  have HC := Lib.hid hcase
  clear hcase
  go_enter Tryz.func148, Tryz.ntmps148
  go_upto_region 1 with fail
  change Code.wp _ _ _ _ ((w.alloc (.cells (deedA a o) 110)).alloc (.cells (inoA noIno) 32))
  generalize (w.alloc (.cells (deedA a o) 110)).alloc (.cells (inoA noIno) 32) = w0 at hb0 ⊢
  obtain ⟨d0, d1, d2, d3, d4, d5, d6, d7, d8, d9, d10, d11, d12, d13⟩ := deed_cells (g := w.heap.size) (hb0.at 1 rfl)
  go_wp2_with fail
  refine (LK.out _ hb0.below).mono ?_
  rintro e w1 ⟨rfl, hb1⟩
  have hH1 := hb0.step hb1
  clear hb0 hb1 d0 d1 d2 d3 d4 d5 d6 d7 d8 d9 d10 d11 d12 d13 LK
  go_upto_region 2 with fail
  obtain ⟨u, hu⟩ : ∃ u, u = w1.heap.size := ⟨_, rfl⟩
  have hlu : w.heap.size + 1 < u := by rw [hu]; exact heap_lt (hH1.at 0 rfl)
  have hH2 := hH1.alloc (.cells (stA t) 24) hu.symm
  change Code.wp _ _ _ _ (w1.alloc (.cells (stA t) 24))
  rw [← hu]
  generalize w1.alloc (.cells (stA t) 24) = w2 at hH2 ⊢
  clear hH1 hu
  obtain ⟨d0, d1, d2, d3, d4, d5, d6, d7, d8, d9, d10, d11, d12, d13⟩ := deed_cells (g := w.heap.size) (hH2.at 2 rfl)
  obtain ⟨s0, s1⟩ := two_cells (g := u) (hH2.at 0 rfl)
  obtain ⟨i0, i1, i2, i3, i4, i5⟩ := ino_cells (g := w.heap.size + 1) (hH2.at 1 rfl)
  obtain ⟨f0, f1, f2, f3, f4, f5⟩ := ino_free (g := w.heap.size + 1) (hH2.at 1 rfl)
  have P := Lib.hid (ino_put (g := w.heap.size + 1) (hH2.at 1 rfl))
  have HB := Lib.hid hH2.below
  rcases HC.out with ⟨rfl, hnm, hni⟩ | ⟨rfl, hr, hnm, hni⟩ | ⟨rfl, rfl, hnm, hni⟩
  · have HN := Lib.hid hnm
    have HI := Lib.hid hni
    clear hH2 HC hnm hni GT
    obtain ⟨z0, z1, z2, z3, z4, z5⟩ := ino_cells (P.out noIno)
    have HBB := Lib.hid (below_six HB.out (g := w.heap.size + 1) (by omega) (.int .i64 noIno.id.1) (.int .i64 noIno.id.2) (.int .i64 noIno.kind) (.int .i64 noIno.links) (.int .i64 noIno.mode) (.string noIno.data))
    simp only [noIno] at i0 i1 i2 i3 i4 i5 z0 z1 z2 z3 z4 z5
    go_wp2_with fail
    exact bodyPost_ret (v := .tuple #[.agg (inoA noIno), .bool false]) (by simp [results, Tryz.results148, go_sem, inoA, noIno, z0, z1, z2, z3, z4, z5]) rfl ⟨by rw [HN.out, HI.out], HBB.out⟩
  · have HN := Lib.hid hnm
    have HI := Lib.hid hni
    clear hH2 HC hnm hni GT
    obtain ⟨z0, z1, z2, z3, z4, z5⟩ := ino_cells (P.out noIno)
    have HBB := Lib.hid (below_six HB.out (g := w.heap.size + 1) (by omega) (.int .i64 noIno.id.1) (.int .i64 noIno.id.2) (.int .i64 noIno.kind) (.int .i64 noIno.links) (.int .i64 noIno.mode) (.string noIno.data))
    simp only [noIno] at i0 i1 i2 i3 i4 i5 z0 z1 z2 z3 z4 z5
    obtain ⟨r1, hr1⟩ : ∃ r1, (t.1 == o.it) = r1 := ⟨_, rfl⟩
    obtain ⟨r2, hr2⟩ : ∃ r2, (t.2 == o.ir) = r2 := ⟨_, rfl⟩
    rw [hr1, hr2] at hr
    have hr' : (r1 && r2) = false := by rcases hr with q | q <;> rw [q] <;> simp
    clear hr
    cases r1 <;> cases r2
    case true.true => cases hr'
    all_goals
      clear hr'
      go_wp2_with fail
      exact bodyPost_ret (v := .tuple #[.agg (inoA noIno), .bool false]) (by simp [results, Tryz.results148, go_sem, inoA, noIno, z0, z1, z2, z3, z4, z5]) rfl ⟨by rw [HN.out, HI.out], HBB.out⟩
  · have HN := Lib.hid hnm
    have HI := Lib.hid hni
    clear HC hnm hni P HB i0 i1 i2 i3 i4 i5 f0 f1 f2 f3 f4 f5
    have HH2 := Lib.hid hH2
    clear hH2
    dsimp only at s0 s1
    have q1 : (o.it == o.it) = true := beq_self_eq_true _
    have q2 : (o.ir == o.ir) = true := beq_self_eq_true _
    go_wp2_with fail
    refine (GT.out _ HH2.out.below).mono ?_
    rintro e w3 ⟨rfl, hb3⟩
    have hH3 := HH2.out.step hb3
    obtain ⟨i0, i1, i2, i3, i4, i5⟩ := ino_cells (g := w.heap.size + 1) (hH3.at 1 rfl)
    obtain ⟨f0, f1, f2, f3, f4, f5⟩ := ino_free (g := w.heap.size + 1) (hH3.at 1 rfl)
    have P := Lib.hid (ino_put (g := w.heap.size + 1) (hH3.at 1 rfl) x)
    have HBB := Lib.hid (below_six hH3.below (g := w.heap.size + 1) (by omega) (.int .i64 x.id.1) (.int .i64 x.id.2) (.int .i64 x.kind) (.int .i64 x.links) (.int .i64 x.mode) (.string x.data))
    clear HH2 hb3 hH3 GT d0 d1 d2 d3 d4 d5 d6 d7 d8 d9 d10 d11 d12 d13 s0 s1
    obtain ⟨z0, z1, z2, z3, z4, z5⟩ := ino_cells P.out
    go_wp2_with fail
    exact bodyPost_ret (v := .tuple #[.agg (inoA x), .bool xi]) (by simp [results, Tryz.results148, go_sem, inoA, z0, z1, z2, z3, z4, z5]) rfl ⟨by rw [HN.out, HI.out], HBB.out⟩

end Go.Proofs.YtbkijfhfjhpebaaGreatDoor

/-
  The landed apply: why an entry can't be gone, and an inode not have other contents, or another mode.
-/
namespace Go.Proofs.YtbkijfhfjhpebaaGreatDoor
open Go.RowKit StampMath GraphMath OpMath PackMath

set_option maxRecDepth 100000 in
set_option maxHeartbeats 3200000 in
theorem whyUnlink_code (H : GraphHave) (a : Addr) (S : Nat → Prop) (g : Gr) (o : Opn) (w : World) (h : H.rep w S a g) (hg : g.ok) (hm : mayO o = true) (hk : o.k = 5) (hn : o.name.size ≤ maxLen) :
    Calls Tryz.prog 119 #[.agg (deedA a o)] w fun e w' => e = .returned (.int .i64 (whyA g o)) ∧ Below w.heap.size w w' := by
  obtain ⟨r, hr⟩ : ∃ r, r = whyA g o := ⟨_, rfl⟩
  rw [← hr]
  obtain ⟨x, hx⟩ : ∃ x, x = (namedG g o).getD noIno := ⟨_, rfl⟩
  obtain ⟨b, hb⟩ : ∃ b, b = (namedG g o).isSome := ⟨_, rfl⟩
  obtain ⟨kd, hkd⟩ : ∃ kd, kd = (x.kind == 1) := ⟨_, rfl⟩
  have NA : Hid (∀ W : World, Below w.heap.size w W → Calls Tryz.prog 148 #[.agg #[.pointer (some a), .int .i64 o.st, .int .i64 o.sr, .int .i64 o.k, .int .i64 o.pt, .int .i64 o.pr, .int .i64 o.it, .int .i64 o.ir, .int .i64 o.tt, .int .i64 o.tr, .string o.name, .string o.new, .int .i64 o.off, .string o.data]] W fun e w' => e = .returned (.tuple #[.agg #[.int .i64 x.id.1, .int .i64 x.id.2, .int .i64 x.kind, .int .i64 x.links, .int .i64 x.mode, .string x.data], .bool b]) ∧ Below W.heap.size W w') := Lib.hid fun W hW => by
    rw [hx, hb]
    exact named_code H a S g o W (rep_below h hW) hg hn
  have DX : Hid (∀ W : World, Below w.heap.size w W → Calls Tryz.prog 147 #[.agg #[.int .i64 x.id.1, .int .i64 x.id.2, .int .i64 x.kind, .int .i64 x.links, .int .i64 x.mode, .string x.data]] W fun e w' => e = .returned (.bool kd) ∧ Below W.heap.size W w') := Lib.hid fun W hW => by
    rw [hkd]
    exact dirQ_code x W
  have hr2 : r = if b = false then 3 else if kd = true then 5 else 0 := by
    rw [hr, unlink_why hg hm hk, ← hx, ← hb, hkd]
    unfold unlinkB
    simp
  have HR := Lib.hid hr2
  have hH0 : Held w [(w.heap.size, .cells (deedA a o) 110)] (w.alloc (.cells (deedA a o) 110)) := (Held.refl w).alloc (.cells (deedA a o) 110) rfl
  clear h hr hr2 hx hb hkd hg hm hk hn
  go_enter Tryz.func119, Tryz.ntmps119
  go_upto_region 1 with fail
  change Code.wp _ _ _ _ (w.alloc (.cells (deedA a o) 110))
  generalize w.alloc (.cells (deedA a o) 110) = v0 at hH0 ⊢
  obtain ⟨d0, d1, d2, d3, d4, d5, d6, d7, d8, d9, d10, d11, d12, d13⟩ := deed_cells (g := w.heap.size) (hH0.at 0 rfl)
  go_wp2_with fail
  refine (NA.out _ hH0.below).mono ?_
  rintro e y0 ⟨rfl, hb0⟩
  have hH1 := hH0.step hb0
  clear hH0 hb0 d0 d1 d2 d3 d4 d5 d6 d7 d8 d9 d10 d11 d12 d13 NA
  go_upto_region 2 with fail
  obtain ⟨u0, hu0⟩ : ∃ u, u = y0.heap.size := ⟨_, rfl⟩
  have hl0 : w.heap.size < u0 := by rw [hu0]; exact heap_lt (hH1.at 0 rfl)
  have hH2 := hH1.alloc (.cells (inoA x) 32) hu0.symm
  change Code.wp _ _ _ _ (y0.alloc (.cells (inoA x) 32))
  rw [← hu0]
  generalize y0.alloc (.cells (inoA x) 32) = v1 at hH2 ⊢
  clear hH1 hu0
  have O := Lib.hid (fun y => deed_cells (g := w.heap.size) (((later_below v1 y).block _ (heap_lt (hH2.at 1 rfl))).trans (hH2.at 1 rfl)))
  have d0 := fun y => (O.out y).1
  have d1 := fun y => (O.out y).2.1
  have d2 := fun y => (O.out y).2.2.1
  have d3 := fun y => (O.out y).2.2.2.1
  have d4 := fun y => (O.out y).2.2.2.2.1
  have d5 := fun y => (O.out y).2.2.2.2.2.1
  have d6 := fun y => (O.out y).2.2.2.2.2.2.1
  have d7 := fun y => (O.out y).2.2.2.2.2.2.2.1
  have d8 := fun y => (O.out y).2.2.2.2.2.2.2.2.1
  have d9 := fun y => (O.out y).2.2.2.2.2.2.2.2.2.1
  have d10 := fun y => (O.out y).2.2.2.2.2.2.2.2.2.2.1
  have d11 := fun y => (O.out y).2.2.2.2.2.2.2.2.2.2.2.1
  have d12 := fun y => (O.out y).2.2.2.2.2.2.2.2.2.2.2.2.1
  have d13 := fun y => (O.out y).2.2.2.2.2.2.2.2.2.2.2.2.2
  have X0 := Lib.hid (fun y => ino_cells (g := u0) (((later_below v1 y).block _ (heap_lt (hH2.at 0 rfl))).trans (hH2.at 0 rfl)))
  have x00 := fun y => (X0.out y).1
  have x01 := fun y => (X0.out y).2.1
  have x02 := fun y => (X0.out y).2.2.1
  have x03 := fun y => (X0.out y).2.2.2.1
  have x04 := fun y => (X0.out y).2.2.2.2.1
  have x05 := fun y => (X0.out y).2.2.2.2.2
  clear X0
  have HB := Lib.hid hH2.below
  have DX' : Hid (∀ y, Calls Tryz.prog 147 #[.agg #[.int .i64 x.id.1, .int .i64 x.id.2, .int .i64 x.kind, .int .i64 x.links, .int .i64 x.mode, .string x.data]] (later v1 y) fun e w' => e = .returned (.bool kd) ∧ ∃ z, w' = later v1 z) := Lib.hid fun y => later_call (DX.out _ (below_step HB.out (later_below v1 y)))
  rw [show v1 = later v1 v1 from (later_of (Below.refl _ _)).symm]
  clear hH2 O DX
  go_wp2_with fail
  iterate 3
    all_goals first
      | ((fail_if_success (go_at_call 147)); go_ret; exact ⟨by rw [HR.out]; clear d0 d1 d2 d3 d4 d5 d6 d7 d8 d9 d10 d11 d12 d13 x00 x01 x02 x03 x04 x05 DX' HB HR; simp_all, below_step HB.out (later_below v1 _)⟩)
      | (go_at_call 147; (with_reducible refine (DX'.out _).mono ?_); rintro z w5 ⟨rfl, y5, rfl⟩; go_wp2_with fail)
      | skip

set_option maxRecDepth 100000 in
set_option maxHeartbeats 3200000 in
theorem whyRmdir_code (H : GraphHave) (a : Addr) (S : Nat → Prop) (g : Gr) (o : Opn) (w : World) (h : H.rep w S a g) (hg : g.ok) (hm : mayO o = true) (hk : o.k = 6) (hn : o.name.size ≤ maxLen) :
    Calls Tryz.prog 120 #[.agg (deedA a o)] w fun e w' => e = .returned (.int .i64 (whyA g o)) ∧ Below w.heap.size w w' := by
  obtain ⟨r, hr⟩ : ∃ r, r = whyA g o := ⟨_, rfl⟩
  rw [← hr]
  obtain ⟨x, hx⟩ : ∃ x, x = (namedG g o).getD noIno := ⟨_, rfl⟩
  obtain ⟨b, hb⟩ : ∃ b, b = (namedG g o).isSome := ⟨_, rfl⟩
  obtain ⟨kd, hkd⟩ : ∃ kd, kd = (x.kind == 1) := ⟨_, rfl⟩
  obtain ⟨fu, hfu⟩ : ∃ fu, fu = decide (0 < (listE g.E x.id).length) := ⟨_, rfl⟩
  have NA : Hid (∀ W : World, Below w.heap.size w W → Calls Tryz.prog 148 #[.agg #[.pointer (some a), .int .i64 o.st, .int .i64 o.sr, .int .i64 o.k, .int .i64 o.pt, .int .i64 o.pr, .int .i64 o.it, .int .i64 o.ir, .int .i64 o.tt, .int .i64 o.tr, .string o.name, .string o.new, .int .i64 o.off, .string o.data]] W fun e w' => e = .returned (.tuple #[.agg #[.int .i64 x.id.1, .int .i64 x.id.2, .int .i64 x.kind, .int .i64 x.links, .int .i64 x.mode, .string x.data], .bool b]) ∧ Below W.heap.size W w') := Lib.hid fun W hW => by
    rw [hx, hb]
    exact named_code H a S g o W (rep_below h hW) hg hn
  have DX : Hid (∀ W : World, Below w.heap.size w W → Calls Tryz.prog 147 #[.agg #[.int .i64 x.id.1, .int .i64 x.id.2, .int .i64 x.kind, .int .i64 x.links, .int .i64 x.mode, .string x.data]] W fun e w' => e = .returned (.bool kd) ∧ Below W.heap.size W w') := Lib.hid fun W hW => by
    rw [hkd]
    exact dirQ_code x W
  have FU : Hid (∀ W : World, Below w.heap.size w W → Calls Tryz.prog 149 #[.agg #[.pointer (some a), .int .i64 o.st, .int .i64 o.sr, .int .i64 o.k, .int .i64 o.pt, .int .i64 o.pr, .int .i64 o.it, .int .i64 o.ir, .int .i64 o.tt, .int .i64 o.tr, .string o.name, .string o.new, .int .i64 o.off, .string o.data], .agg #[.int .i64 x.id.1, .int .i64 x.id.2]] W fun e w' => e = .returned (.bool fu) ∧ Below W.heap.size W w') := Lib.hid fun W hW => by
    rw [hfu]
    exact fullQ_code H a S g o x.id W (rep_below h hW) hg
  have hr2 : r = if b = false then 3 else if kd = false then 6 else if fu = true then 7 else 0 := by
    rw [hr, rmdir_why hg hm hk, ← hx, ← hb, hkd, hfu]
    unfold rmdirB
    cases hq : namedG g o with
    | none =>
      rw [hq] at hb
      rw [hb]
      simp
    | some y =>
      rw [hq] at hx
      rw [hx, Option.getD_some, (named_some hg hq).2.2.1]
      simp
  have HR := Lib.hid hr2
  have hH0 : Held w [(w.heap.size, .cells (deedA a o) 110)] (w.alloc (.cells (deedA a o) 110)) := (Held.refl w).alloc (.cells (deedA a o) 110) rfl
  clear h hr hr2 hx hb hkd hfu hg hm hk hn
  go_enter Tryz.func120, Tryz.ntmps120
  go_upto_region 1 with fail
  change Code.wp _ _ _ _ (w.alloc (.cells (deedA a o) 110))
  generalize w.alloc (.cells (deedA a o) 110) = v0 at hH0 ⊢
  obtain ⟨d0, d1, d2, d3, d4, d5, d6, d7, d8, d9, d10, d11, d12, d13⟩ := deed_cells (g := w.heap.size) (hH0.at 0 rfl)
  go_wp2_with fail
  refine (NA.out _ hH0.below).mono ?_
  rintro e y0 ⟨rfl, hb0⟩
  have hH1 := hH0.step hb0
  clear hH0 hb0 d0 d1 d2 d3 d4 d5 d6 d7 d8 d9 d10 d11 d12 d13 NA
  go_upto_region 2 with fail
  obtain ⟨u0, hu0⟩ : ∃ u, u = y0.heap.size := ⟨_, rfl⟩
  have hl0 : w.heap.size < u0 := by rw [hu0]; exact heap_lt (hH1.at 0 rfl)
  have hH2 := hH1.alloc (.cells (inoA x) 32) hu0.symm
  change Code.wp _ _ _ _ (y0.alloc (.cells (inoA x) 32))
  rw [← hu0]
  generalize y0.alloc (.cells (inoA x) 32) = v1 at hH2 ⊢
  clear hH1 hu0
  have O := Lib.hid (fun y => deed_cells (g := w.heap.size) (((later_below v1 y).block _ (heap_lt (hH2.at 1 rfl))).trans (hH2.at 1 rfl)))
  have d0 := fun y => (O.out y).1
  have d1 := fun y => (O.out y).2.1
  have d2 := fun y => (O.out y).2.2.1
  have d3 := fun y => (O.out y).2.2.2.1
  have d4 := fun y => (O.out y).2.2.2.2.1
  have d5 := fun y => (O.out y).2.2.2.2.2.1
  have d6 := fun y => (O.out y).2.2.2.2.2.2.1
  have d7 := fun y => (O.out y).2.2.2.2.2.2.2.1
  have d8 := fun y => (O.out y).2.2.2.2.2.2.2.2.1
  have d9 := fun y => (O.out y).2.2.2.2.2.2.2.2.2.1
  have d10 := fun y => (O.out y).2.2.2.2.2.2.2.2.2.2.1
  have d11 := fun y => (O.out y).2.2.2.2.2.2.2.2.2.2.2.1
  have d12 := fun y => (O.out y).2.2.2.2.2.2.2.2.2.2.2.2.1
  have d13 := fun y => (O.out y).2.2.2.2.2.2.2.2.2.2.2.2.2
  have X0 := Lib.hid (fun y => ino_cells (g := u0) (((later_below v1 y).block _ (heap_lt (hH2.at 0 rfl))).trans (hH2.at 0 rfl)))
  have x00 := fun y => (X0.out y).1
  have x01 := fun y => (X0.out y).2.1
  have x02 := fun y => (X0.out y).2.2.1
  have x03 := fun y => (X0.out y).2.2.2.1
  have x04 := fun y => (X0.out y).2.2.2.2.1
  have x05 := fun y => (X0.out y).2.2.2.2.2
  clear X0
  have HB := Lib.hid hH2.below
  have DX' : Hid (∀ y, Calls Tryz.prog 147 #[.agg #[.int .i64 x.id.1, .int .i64 x.id.2, .int .i64 x.kind, .int .i64 x.links, .int .i64 x.mode, .string x.data]] (later v1 y) fun e w' => e = .returned (.bool kd) ∧ ∃ z, w' = later v1 z) := Lib.hid fun y => later_call (DX.out _ (below_step HB.out (later_below v1 y)))
  have FU' : Hid (∀ y, Calls Tryz.prog 149 #[.agg #[.pointer (some a), .int .i64 o.st, .int .i64 o.sr, .int .i64 o.k, .int .i64 o.pt, .int .i64 o.pr, .int .i64 o.it, .int .i64 o.ir, .int .i64 o.tt, .int .i64 o.tr, .string o.name, .string o.new, .int .i64 o.off, .string o.data], .agg #[.int .i64 x.id.1, .int .i64 x.id.2]] (later v1 y) fun e w' => e = .returned (.bool fu) ∧ ∃ z, w' = later v1 z) := Lib.hid fun y => later_call (FU.out _ (below_step HB.out (later_below v1 y)))
  rw [show v1 = later v1 v1 from (later_of (Below.refl _ _)).symm]
  clear hH2 O DX FU
  go_wp2_with fail
  iterate 4
    all_goals first
      | ((fail_if_success (go_at_call 147)); (fail_if_success (go_at_call 149)); go_ret; exact ⟨by rw [HR.out]; clear d0 d1 d2 d3 d4 d5 d6 d7 d8 d9 d10 d11 d12 d13 x00 x01 x02 x03 x04 x05 DX' FU' HB HR; simp_all, below_step HB.out (later_below v1 _)⟩)
      | (go_at_call 147; (with_reducible refine (DX'.out _).mono ?_); rintro z w5 ⟨rfl, y5, rfl⟩; go_wp2_with fail)
      | (go_at_call 149; (with_reducible refine (FU'.out _).mono ?_); rintro z w5 ⟨rfl, y5, rfl⟩; go_wp2_with fail)
      | skip

set_option maxRecDepth 100000 in
set_option maxHeartbeats 3200000 in
theorem whyFill_code (H : GraphHave) (a : Addr) (S : Nat → Prop) (g : Gr) (o : Opn) (w : World) (h : H.rep w S a g) (hg : g.ok) (hm : mayO o = true) (hk : o.k = 8 ∨ o.k = 9) :
    Calls Tryz.prog 122 #[.agg (deedA a o)] w fun e w' => e = .returned (.int .i64 (whyA g o)) ∧ Below w.heap.size w w' := by
  obtain ⟨r, hr⟩ : ∃ r, r = whyA g o := ⟨_, rfl⟩
  rw [← hr]
  obtain ⟨x, hx⟩ : ∃ x, x = (getG g (oIno o)).getD noIno := ⟨_, rfl⟩
  obtain ⟨b, hb⟩ : ∃ b, b = (getG g (oIno o)).isSome := ⟨_, rfl⟩
  obtain ⟨kd, hkd⟩ : ∃ kd, kd = (x.kind == 1) := ⟨_, rfl⟩
  have GI : Hid (∀ W : World, Below w.heap.size w W → Calls Tryz.prog 12 #[.pointer (some a), .agg #[.int .i64 o.it, .int .i64 o.ir]] W fun e w' => e = .returned (.tuple #[.agg #[.int .i64 x.id.1, .int .i64 x.id.2, .int .i64 x.kind, .int .i64 x.links, .int .i64 x.mode, .string x.data], .bool b]) ∧ Below W.heap.size W w') := Lib.hid fun W hW => by
    rw [hx, hb]
    exact H.get a S g (oIno o) W (rep_below h hW) hg
  have DX : Hid (∀ W : World, Below w.heap.size w W → Calls Tryz.prog 147 #[.agg #[.int .i64 x.id.1, .int .i64 x.id.2, .int .i64 x.kind, .int .i64 x.links, .int .i64 x.mode, .string x.data]] W fun e w' => e = .returned (.bool kd) ∧ Below W.heap.size W w') := Lib.hid fun W hW => by
    rw [hkd]
    exact dirQ_code x W
  have hr2 : r = if b = false then 3 else if kd = true then 5 else if x.kind = 3 then 8 else 0 := by
    rw [hr, fill_why hg hm hk, ← hx, ← hb, hkd]
    unfold fillB
    simp
  have HR := Lib.hid hr2
  have hH0 : Held w [(w.heap.size, .cells (deedA a o) 110)] (w.alloc (.cells (deedA a o) 110)) := (Held.refl w).alloc (.cells (deedA a o) 110) rfl
  clear h hr hr2 hx hb hkd hg hm hk
  go_enter Tryz.func122, Tryz.ntmps122
  go_upto_region 1 with fail
  change Code.wp _ _ _ _ (w.alloc (.cells (deedA a o) 110))
  generalize w.alloc (.cells (deedA a o) 110) = v0 at hH0 ⊢
  obtain ⟨d0, d1, d2, d3, d4, d5, d6, d7, d8, d9, d10, d11, d12, d13⟩ := deed_cells (g := w.heap.size) (hH0.at 0 rfl)
  go_wp2_with fail
  refine (GI.out _ hH0.below).mono ?_
  rintro e y0 ⟨rfl, hb0⟩
  have hH1 := hH0.step hb0
  clear hH0 hb0 d0 d1 d2 d3 d4 d5 d6 d7 d8 d9 d10 d11 d12 d13 GI
  go_upto_region 2 with fail
  obtain ⟨u0, hu0⟩ : ∃ u, u = y0.heap.size := ⟨_, rfl⟩
  have hl0 : w.heap.size < u0 := by rw [hu0]; exact heap_lt (hH1.at 0 rfl)
  have hH2 := hH1.alloc (.cells (inoA x) 32) hu0.symm
  change Code.wp _ _ _ _ (y0.alloc (.cells (inoA x) 32))
  rw [← hu0]
  generalize y0.alloc (.cells (inoA x) 32) = v1 at hH2 ⊢
  clear hH1 hu0
  have O := Lib.hid (fun y => deed_cells (g := w.heap.size) (((later_below v1 y).block _ (heap_lt (hH2.at 1 rfl))).trans (hH2.at 1 rfl)))
  have d0 := fun y => (O.out y).1
  have d1 := fun y => (O.out y).2.1
  have d2 := fun y => (O.out y).2.2.1
  have d3 := fun y => (O.out y).2.2.2.1
  have d4 := fun y => (O.out y).2.2.2.2.1
  have d5 := fun y => (O.out y).2.2.2.2.2.1
  have d6 := fun y => (O.out y).2.2.2.2.2.2.1
  have d7 := fun y => (O.out y).2.2.2.2.2.2.2.1
  have d8 := fun y => (O.out y).2.2.2.2.2.2.2.2.1
  have d9 := fun y => (O.out y).2.2.2.2.2.2.2.2.2.1
  have d10 := fun y => (O.out y).2.2.2.2.2.2.2.2.2.2.1
  have d11 := fun y => (O.out y).2.2.2.2.2.2.2.2.2.2.2.1
  have d12 := fun y => (O.out y).2.2.2.2.2.2.2.2.2.2.2.2.1
  have d13 := fun y => (O.out y).2.2.2.2.2.2.2.2.2.2.2.2.2
  have X0 := Lib.hid (fun y => ino_cells (g := u0) (((later_below v1 y).block _ (heap_lt (hH2.at 0 rfl))).trans (hH2.at 0 rfl)))
  have x00 := fun y => (X0.out y).1
  have x01 := fun y => (X0.out y).2.1
  have x02 := fun y => (X0.out y).2.2.1
  have x03 := fun y => (X0.out y).2.2.2.1
  have x04 := fun y => (X0.out y).2.2.2.2.1
  have x05 := fun y => (X0.out y).2.2.2.2.2
  clear X0
  have HB := Lib.hid hH2.below
  have DX' : Hid (∀ y, Calls Tryz.prog 147 #[.agg #[.int .i64 x.id.1, .int .i64 x.id.2, .int .i64 x.kind, .int .i64 x.links, .int .i64 x.mode, .string x.data]] (later v1 y) fun e w' => e = .returned (.bool kd) ∧ ∃ z, w' = later v1 z) := Lib.hid fun y => later_call (DX.out _ (below_step HB.out (later_below v1 y)))
  rw [show v1 = later v1 v1 from (later_of (Below.refl _ _)).symm]
  clear hH2 O DX
  go_wp2_with fail
  iterate 3
    all_goals first
      | ((fail_if_success (go_at_call 147)); go_ret; exact ⟨by rw [HR.out]; clear d0 d1 d2 d3 d4 d5 d6 d7 d8 d9 d10 d11 d12 d13 x00 x01 x02 x03 x04 x05 DX' HB HR; simp_all, below_step HB.out (later_below v1 _)⟩)
      | (go_at_call 147; (with_reducible refine (DX'.out _).mono ?_); rintro z w5 ⟨rfl, y5, rfl⟩; go_wp2_with fail)
      | skip

set_option maxRecDepth 100000 in
set_option maxHeartbeats 3200000 in
theorem whySet_code (H : GraphHave) (a : Addr) (S : Nat → Prop) (g : Gr) (o : Opn) (w : World) (h : H.rep w S a g) (hg : g.ok) (hm : mayO o = true) (hk : o.k = 10) :
    Calls Tryz.prog 123 #[.agg (deedA a o)] w fun e w' => e = .returned (.int .i64 (whyA g o)) ∧ Below w.heap.size w w' := by
  obtain ⟨r, hr⟩ : ∃ r, r = whyA g o := ⟨_, rfl⟩
  rw [← hr]
  obtain ⟨x, hx⟩ : ∃ x, x = (getG g (oIno o)).getD noIno := ⟨_, rfl⟩
  obtain ⟨b, hb⟩ : ∃ b, b = (getG g (oIno o)).isSome := ⟨_, rfl⟩
  have GI : Hid (∀ W : World, Below w.heap.size w W → Calls Tryz.prog 12 #[.pointer (some a), .agg #[.int .i64 o.it, .int .i64 o.ir]] W fun e w' => e = .returned (.tuple #[.agg #[.int .i64 x.id.1, .int .i64 x.id.2, .int .i64 x.kind, .int .i64 x.links, .int .i64 x.mode, .string x.data], .bool b]) ∧ Below W.heap.size W w') := Lib.hid fun W hW => by
    rw [hx, hb]
    exact H.get a S g (oIno o) W (rep_below h hW) hg
  have hr2 : r = if b = false then 3 else 0 := by
    rw [hr, set_why hg hm hk, ← hb]
    rfl
  have HR := Lib.hid hr2
  have hH0 : Held w [(w.heap.size, .cells (deedA a o) 110)] (w.alloc (.cells (deedA a o) 110)) := (Held.refl w).alloc (.cells (deedA a o) 110) rfl
  clear h hr hr2 hx hb hg hm hk
  go_enter Tryz.func123, Tryz.ntmps123
  go_upto_region 1 with fail
  change Code.wp _ _ _ _ (w.alloc (.cells (deedA a o) 110))
  generalize w.alloc (.cells (deedA a o) 110) = v0 at hH0 ⊢
  obtain ⟨d0, d1, d2, d3, d4, d5, d6, d7, d8, d9, d10, d11, d12, d13⟩ := deed_cells (g := w.heap.size) (hH0.at 0 rfl)
  go_wp2_with fail
  refine (GI.out _ hH0.below).mono ?_
  rintro e y0 ⟨rfl, hb0⟩
  have hH1 := hH0.step hb0
  clear hH0 hb0 d0 d1 d2 d3 d4 d5 d6 d7 d8 d9 d10 d11 d12 d13 GI
  go_upto_region 2 with fail
  obtain ⟨u0, hu0⟩ : ∃ u, u = y0.heap.size := ⟨_, rfl⟩
  have hl0 : w.heap.size < u0 := by rw [hu0]; exact heap_lt (hH1.at 0 rfl)
  have hH2 := hH1.alloc (.cells (inoA x) 32) hu0.symm
  change Code.wp _ _ _ _ (y0.alloc (.cells (inoA x) 32))
  rw [← hu0]
  generalize y0.alloc (.cells (inoA x) 32) = v1 at hH2 ⊢
  clear hH1 hu0
  have O := Lib.hid (fun y => deed_cells (g := w.heap.size) (((later_below v1 y).block _ (heap_lt (hH2.at 1 rfl))).trans (hH2.at 1 rfl)))
  have d0 := fun y => (O.out y).1
  have d1 := fun y => (O.out y).2.1
  have d2 := fun y => (O.out y).2.2.1
  have d3 := fun y => (O.out y).2.2.2.1
  have d4 := fun y => (O.out y).2.2.2.2.1
  have d5 := fun y => (O.out y).2.2.2.2.2.1
  have d6 := fun y => (O.out y).2.2.2.2.2.2.1
  have d7 := fun y => (O.out y).2.2.2.2.2.2.2.1
  have d8 := fun y => (O.out y).2.2.2.2.2.2.2.2.1
  have d9 := fun y => (O.out y).2.2.2.2.2.2.2.2.2.1
  have d10 := fun y => (O.out y).2.2.2.2.2.2.2.2.2.2.1
  have d11 := fun y => (O.out y).2.2.2.2.2.2.2.2.2.2.2.1
  have d12 := fun y => (O.out y).2.2.2.2.2.2.2.2.2.2.2.2.1
  have d13 := fun y => (O.out y).2.2.2.2.2.2.2.2.2.2.2.2.2
  have X0 := Lib.hid (fun y => ino_cells (g := u0) (((later_below v1 y).block _ (heap_lt (hH2.at 0 rfl))).trans (hH2.at 0 rfl)))
  have x00 := fun y => (X0.out y).1
  have x01 := fun y => (X0.out y).2.1
  have x02 := fun y => (X0.out y).2.2.1
  have x03 := fun y => (X0.out y).2.2.2.1
  have x04 := fun y => (X0.out y).2.2.2.2.1
  have x05 := fun y => (X0.out y).2.2.2.2.2
  clear X0
  have HB := Lib.hid hH2.below
  rw [show v1 = later v1 v1 from (later_of (Below.refl _ _)).symm]
  clear hH2 O 
  go_wp2_with fail
  all_goals (go_ret; exact ⟨by rw [HR.out]; clear d0 d1 d2 d3 d4 d5 d6 d7 d8 d9 d10 d11 d12 d13 x00 x01 x02 x03 x04 x05  HB HR; simp_all, below_step HB.out (later_below v1 _)⟩)

end Go.Proofs.YtbkijfhfjhpebaaGreatDoor
