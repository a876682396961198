/-
  The walk of the document's own stamps: four stamps with which a string begins.
-/
import Derived.Test.YteknegfocnopgaaDoorOpRefUses
import Derived.Test.YteknegfocnopgaaDoorStampRefTake
import Derived.Deep.LoopGhost
namespace Go.Proofs.YteknegfocnopgaaDoor
open Go.RowKit OpMath StampMath PackMath

/-- So many stamps with which a list begins. -/
def stampsN : Nat → List UInt8 → Option (List (Int × Int) × List UInt8)
  | 0, l => some ([], l)
  | n + 1, l => match stampL l with
    | none => none
    | some (t, r, u) => match stampsN n u with
      | none => none
      | some (xs, v) => some ((t, r) :: xs, v)

theorem stampsN_none {n : Nat} {l : List UInt8} (h : stampL l = none) : stampsN (n + 1) l = none := by rw [stampsN, h]
theorem stampsN_some {n : Nat} {l u : List UInt8} {t r : Int} (h : stampL l = some (t, r, u)) : stampsN (n + 1) l = (stampsN n u).map fun p => ((t, r) :: p.1, p.2) := by
  rw [stampsN, h]
  simp only
  cases stampsN n u <;> rfl

/-- What was taken, and what is to be taken yet. -/
def stampsFrom (xs : List (Int × Int)) (n : Nat) (l : List UInt8) : Option (List (Int × Int) × List UInt8) := (stampsN n l).map fun p => (xs ++ p.1, p.2)

theorem stampsFrom_none {xs : List (Int × Int)} {n : Nat} {l : List UInt8} (h : stampL l = none) : stampsFrom xs (n + 1) l = none := by unfold stampsFrom; rw [stampsN_none h]; rfl
theorem stampsFrom_some {xs : List (Int × Int)} {n : Nat} {l u : List UInt8} {t r : Int} (h : stampL l = some (t, r, u)) : stampsFrom xs (n + 1) l = stampsFrom (xs ++ [(t, r)]) n u := by
  unfold stampsFrom
  rw [stampsN_some h]
  cases stampsN n u with
  | none => rfl
  | some p => simp

/-- The three results. -/
def StampsPost (q : Option (List (Int × Int) × List UInt8)) (w : World) (e : Ending) (w' : World) : Prop :=
  match q with
  | none => e = .returned (.tuple #[.slice none 0 0, .string ⟨#[]⟩, .int .i64 2]) ∧ Below w.heap.size w w'
  | some (xs, u) => ∃ (A : Option Addr) (c : Nat), e = .returned (.tuple #[.slice A xs.length c, .string ⟨u.toArray⟩, .int .i64 0]) ∧ PairsIn w' w'.heap.size A xs.length xs ∧ xs.length ≤ c ∧ c ≤ maxLen ∧ Below w.heap.size w w'

theorem pair_there1 (w : World) (o : Obj) (T : TypeId) (a b : Int) : ∀ j u, (flat [(a, b)])[j]? = some u → ((w.alloc o).alloc (.cells #[.int .i64 a, .int .i64 b] T)).cell? (Addr.add ⟨w.heap.size + 1, 0, none⟩ j) = some u := by
  have h := pair_there (w.alloc o) T a b
  rw [World.size_alloc] at h
  exact h

set_option maxRecDepth 100000 in
set_option maxHeartbeats 1600000 in
theorem refStamps (s : ByteArray) (hs : s.size ≤ 4000) (w : World) :
    Calls Tryd.prog 27 #[.string s, .int .i64 4] w (StampsPost (stampsN 4 s.data.toList) w) := by
  obtain ⟨i0, hi0, hz0, hz1, hz2⟩ := info_parts stamp_infos
  obtain ⟨Q, hQ⟩ : ∃ Q, Q = stampsN 4 s.data.toList := ⟨_, rfl⟩
  rw [← hQ]
  have HQ := Lib.hid hQ
  clear hQ
  go_enter Tryd.func27, Tryd.ntmps27
  go_wp2_with fail
  go_loopg [0, 7, 8] 5 (fun gk b v i wr => ∃ (k : Nat) (l : List UInt8) (xs : List (Int × Int)), i = .int .i64 (k : Int) ∧ gk + k = 5 ∧ k ≤ 4 ∧ b = .string ⟨l.toArray⟩ ∧ l.length ≤ 4000 ∧ Hid (stampsFrom xs (4 - k) l = Q) ∧ wr.ownsRow w.heap.size 23 2 v k (flat xs) ∧ Below w.heap.size w wr)
  case atStart =>
    refine ⟨0, s.data.toList, [], rfl, by omega, by omega, by rw [Lib.mk_data s], by simpa using hs, ?_, World.ownsRow_nil _ _ _ _, Below.refl _ _⟩
    show stampsFrom [] 4 _ = Q
    rw [HQ.out]
    unfold stampsFrom
    cases stampsN 4 s.data.toList <;> rfl
  case round =>
    obtain ⟨k, l, xs, rfl, hgk, hk, rfl, hl, hrest, hown, hB⟩ := hrel
    have HG := Lib.hid hgk
    clear hgk
    by_cases hlt : k < 4
    · cases ht : stampL l with
      | none =>
        have HN := Lib.hid (show Q = none by rw [← hrest.out, show 4 - k = (3 - k) + 1 by omega, stampsFrom_none ht])
        have H : Hid (∀ W : World, Calls Tryd.prog 49 #[.string ⟨l.toArray⟩] W fun e w' => e = .returned (stampRes none) ∧ Below W.heap.size W w') := fun W => by rw [← ht]; exact refStampTake ⟨l.toArray⟩ (by show l.length ≤ 4000; exact hl) W
        unfold stampRes at H
        clear ht hrest
        go_wp2_with fail
        refine (H.out _).mono ?_
        rintro e w1 ⟨rfl, hb1⟩
        go_wp2_with fail
        go_ret3
        rw [HN.out]
        have A1 := below_step hB hb1
        exact ⟨rfl, A1.alloc A1.size _⟩
      | some x =>
        obtain ⟨t, r, u⟩ := x
        have hu := (stampL_very ht).2.2.2.2
        have HN := Lib.hid (show stampsFrom (xs ++ [(t, r)]) (4 - (k + 1)) u = Q by rw [← hrest.out, show 4 - k = (4 - (k + 1)) + 1 by omega, stampsFrom_some ht])
        have H : Hid (∀ W : World, Calls Tryd.prog 49 #[.string ⟨l.toArray⟩] W fun e w' => e = .returned (stampRes (some (t, r, u))) ∧ Below W.heap.size W w') := fun W => by rw [← ht]; exact refStampTake ⟨l.toArray⟩ (by show l.length ≤ 4000; exact hl) W
        unfold stampRes at H
        clear ht hrest
        go_wp2_with fail
        refine (H.out _).mono ?_
        rintro e w1 ⟨rfl, hb1⟩
        have hown1 := hown.kept (row := none) ⟨hb1.os, hb1.tape, hb1.output, hb1.size, fun q hq _ => hb1.block q hq⟩ (Classical.em _)
        have hB1 := below_step hB hb1
        have hsz := hB1.size
        have hm : k + 1 ≤ maxLen := by unfold maxLen; omega
        clear hown hB hb1
        go_wp2_with (at_builtin; refine wpList_append_own _ rfl (.tmp 25) (.tmp 27) 37 rfl w.heap.size 23 i0 _ 2 16 Tryd.underlying37 hi0 hz0 hz1 hz2 rfl (by decide) _ _ _ rfl ((hown1.alloc _).alloc _) ⟨w1.heap.size + 1, 0, none⟩ 1 1 (flat [(t, r)]) rfl rfl (pair_there1 w1 _ _ _ _) (flat_one _) hm (by omega) (by simp; omega) ?_; intro v2 w2 hown2 hg2 _)
        have hB2 : Below w.heap.size w w2 := ((hB1.alloc hB1.size _).alloc (by simp; omega) _).grown hg2 (by simp; omega) (fun q hq => (hown1.lt q hq).1)
        rw [flat_append] at hown2
        clear hown1 hg2 hB1 hsz hm
        go_roundg (gk - 1)
        case measure => have := HG.out; omega
        case rel => exact ⟨k + 1, u, xs ++ [(t, r)], by go_num, by have := HG.out; omega, by omega, rfl, by omega, HN, hown2, hB2⟩
    · have hk4 : k = 4 := by omega
      subst hk4
      have HN := Lib.hid (show Q = some (xs, l) by rw [← hrest.out]; show stampsFrom xs 0 l = _; unfold stampsFrom; simp [stampsN])
      obtain ⟨g, cap, cur, rfl, _, hg, hc, hm, hxl, _, hcell⟩ := pairs_own hown (by omega)
      clear hrest hown
      go_wp2_with fail
      go_ret3
      rw [HN.out]
      exact ⟨some ⟨g, 0, none⟩, cap, by rw [hxl]; rfl, by rw [hxl]; exact ⟨hxl, fun _ => ⟨g, 0, rfl, hg, hcell⟩⟩, by omega, hm, hB⟩

end Go.Proofs.YteknegfocnopgaaDoor
