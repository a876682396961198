/-
  The landed disk's log: as a string, and with more behind it; the walks of Log, Append and Crash.
-/
import Derived.Test.YtgbfgjhaglmklaaDiskCodeA
import Derived.Lib.BufferRead
namespace Go.Proofs.Ytgbfgjhaglmklaa
open Go.RowKit DiskMath PackMath

theorem log_conv {w : World} {S : Nat → Prop} {A : Option Addr} {cap : Nat} {bs : List UInt8} (h : LogAt w S (.slice A bs.length cap) bs) :
    (convert 48 9 (.slice A bs.length cap)).run Try.prog w = .ok (.string ⟨bs.toArray⟩) w := by
  rcases h with ⟨A', h1, rfl⟩ | ⟨g, cap', cur, h1, h2, h3, h4, h5, h6, h7⟩
  · cases A with
    | none => exact Lib.run_convert_nil_bytes w _ _ _ cap Try.underlying48 Try.underlying5 Try.underlying9
    | some a => exact run_convert_bytes_back w _ _ _ a cap [] Try.underlying48 Try.underlying5 Try.underlying9 (fun j hj => by simp at hj)
  · injection h1 with e1 e2 e3
    subst e1
    exact run_convert_bytes_back w _ _ _ _ cap bs Try.underlying48 Try.underlying5 Try.underlying9 (Lib.bytes_of_row h3 h7)

theorem bcells_str (s : ByteArray) : Lib.strCells s = s.data.toList.map bcell := rfl

/-- Something is laid behind the log. -/
theorem log_more {w : World} {S : Nat → Prop} {v : Value} {bs : List UInt8} (h : LogAt w S v bs) (s : ByteArray) (hfit : bs.length + s.size ≤ 140737488355328) (ty : TypeId) :
    ∃ v' w', (Builtin.append_ #[48, 9] ty #[v, .string s]).run Try.prog w = .ok v' w' ∧ LogAt w' (fun i => S i ∨ i = w.heap.size) v' (bs ++ s.data.toList) ∧ But S w w' := by
  have hsl : s.data.toList.length = s.size := by simp
  have hi : ∃ i, Try.prog.info? 5 = some i ∧ i.zero = some (.int .u8 0) ∧ i.size = 1 ∧ i.bytes = 1 := ⟨_, rfl, rfl, rfl, rfl⟩
  obtain ⟨i, hi, hz, hs1, hb1⟩ := hi
  have hsmall : bs.length + s.size ≤ 9223372036854775807 := by omega
  have hm : bs.length + s.size ≤ maxLen := by simp only [maxLen]; omega
  have ht := Try.underlying48
  have hu := Try.underlying9
  have grown : ∀ (old : Nat) (l : Array Value), l = (bs.map bcell).toArray → LogAt (w.drew.alloc (.cells (l ++ (Lib.strCells s).toArray ++ Builtin.zeroCells (Value.int .u8 0).cells (grownCap w (bs.length + s.size) old 5 - (bs.length + s.size))) 5)) (fun i => S i ∨ i = w.heap.size) (.slice (some ⟨w.heap.size, 0, none⟩) (bs.length + s.size) (grownCap w (bs.length + s.size) old 5)) (bs ++ s.data.toList) := by
    intro old l hl
    subst hl
    have hge := grownCap_ge w (bs.length + s.size) old 5
    have hcm := grownCap_le_maxLen w (bs.length + s.size) old 5 hm
    refine .inr ⟨w.heap.size, _, _, by rw [List.length_append, hsl], .inr rfl, heap_alloc_new w.drew _, by rw [List.length_append, hsl]; exact hge, hcm, ?_, ?_⟩
    · have hz1 : (Value.int IntKind.u8 0).cells.size = 1 := rfl
      simp only [Array.size_append, List.size_toArray, size_zeroCells, hz1, List.length_map, Lib.strCells_length]
      omega
    · simp only [Array.toList_append, List.append_assoc]
      rw [← List.append_assoc, bcells_str, ← List.map_append]
      exact List.take_left' (by simp)
  have hbut : ∀ cs, But S w (w.drew.alloc cs) := fun cs => ⟨rfl, rfl, rfl, by simp, fun k hk _ => heap_alloc_old w.drew _ hk⟩
  rcases h with ⟨A, rfl, rfl⟩ | ⟨g, cap, cur, rfl, hSg, hg, hnc, hcm, hcs, htk⟩
  · by_cases hn : s.size = 0
    · have hs0 : s.data.toList = [] := List.eq_nil_of_length_eq_zero (by omega)
      refine ⟨.slice A 0 0, w, ?_, .inl ⟨A, rfl, by rw [hs0]; rfl⟩, But.refl _ _⟩
      have hf := Lib.run_firstCells_string (P := Try.prog) w 1 s
      have hsc : Lib.strCells s = [] := List.eq_nil_of_length_eq_zero (by rw [Lib.strCells_length]; exact hn)
      rw [hn, hsc] at hf
      cases A with
      | none => simp [Builtin.append_, run_underlying ht, run_underlying hu, sizeOf, typeInfo, hi, hs1, Builtin.lenOf, hn, hf]
      | some a => simp [Builtin.append_, run_underlying ht, run_underlying hu, sizeOf, typeInfo, hi, hs1, Builtin.lenOf, hn, hf, storeCells]
    · cases A with
      | none =>
        have hr := run_append_nil_string (P := Try.prog) w _ _ ty _ i (.int .u8 0) ht hu hi hz s (by omega) (by simp at hsmall; omega) (by rw [hb1]; simp at hfit; omega)
        have e1 : (s.data.map fun b => Value.int .u8 b.toNat) = (#[] : Array Value) ++ (Lib.strCells s).toArray := by
          apply Array.ext'
          simp [Lib.strCells]
        rw [e1] at hr
        have hg := grown 0 #[] rfl
        simp only [List.length_nil, Nat.zero_add] at hg
        exact ⟨_, _, hr, hg, hbut _⟩
      | some a =>
        have hr := Lib.run_append_grow_string (P := Try.prog) w _ _ ty _ i (.int .u8 0) ht hu hi hz a 0 0 [] (by simp) (fun j v hj => by simp at hj) s (by omega) (by simp at hsmall; omega) (by rw [hb1]; exact growslice_fits (by omega) (by simp at hfit; omega))
        exact ⟨_, _, hr, grown 0 #[] rfl, hbut _⟩
  · by_cases hroom : bs.length + s.size ≤ cap
    · have hr := Lib.run_append_room_string (P := Try.prog) w _ _ ty _ i ht hu hi hs1 g bs.length cap cur hg s hroom (by omega)
      refine ⟨_, _, hr, .inr ⟨g, cap, _, by rw [List.length_append, hsl], .inl hSg, setRow_heap w g cur _ _ _ hg, by rw [List.length_append, hsl]; exact hroom, hcm, ?_, ?_⟩, ⟨rfl, rfl, rfl, by simp, fun k _ hk => setRow_other w g k _ (fun e => hk (e ▸ hSg))⟩⟩
      · simp only [List.size_toArray, List.length_append, List.length_take, List.length_drop, Array.length_toList, Lib.strCells_length]
        omega
      · rw [htk, bcells_str, ← List.map_append]
        exact List.take_left' (by simp)
    · have holds : ∀ j u, (bs.map bcell)[j]? = some u → w.cell? ((⟨g, 0, none⟩ : Addr).add j) = some u := fun j u hu => by
        have := Lib.cells_of_row hg bs.length j u (by rw [htk]; exact hu)
        exact this
      have hr := Lib.run_append_grow_string (P := Try.prog) w _ _ ty _ i (.int .u8 0) ht hu hi hz ⟨g, 0, none⟩ bs.length cap (bs.map bcell) (by rw [hs1]; simp) holds s (by omega) (by omega) (by rw [hb1]; exact growslice_fits (by omega) (by omega))
      exact ⟨_, _, hr, grown cap _ rfl, hbut _⟩

set_option maxRecDepth 100000 in
theorem log_code (a : Addr) (S : Nat → Prop) (x : Dsk) (w : World) (h : DiskIn w S a x) :
    Calls Try.prog 21 #[.pointer (some a)] w fun e w' => e = .returned (.string (x.safe ++ x.rest)) ∧ Below w.heap.size w w' := by
  obtain ⟨b, A, cap, rfl, _, hb, _, hL, _, _, c0, c1, c2, c3, _⟩ := h.read
  have hc := log_conv hL
  have e : (⟨x.bytes.toArray⟩ : ByteArray) = x.safe ++ x.rest := by
    apply ByteArray.ext
    unfold Dsk.bytes
    simp
  rw [e] at hc
  clear e hL h
  go_enter Try.func21, Try.ntmps21
  go_wp2_with fail
  go_ret
  exact ⟨rfl, Below.refl _ _⟩

end Go.Proofs.Ytgbfgjhaglmklaa
