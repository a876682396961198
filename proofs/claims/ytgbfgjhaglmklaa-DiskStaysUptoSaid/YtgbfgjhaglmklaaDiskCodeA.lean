/-
  The landed disk in memory, and the walks of its calls that read, and of New, Sync, Switch.
-/
import Derived.Test.YtgbfgjhaglmklaaDiskHave
import Derived.Lib.AppendStr
import Derived.Laws.BytesString
import Derived.Deep.QuietTactic
import Derived.BigQuiet
namespace Go.Proofs.Ytgbfgjhaglmklaa
open Go.RowKit DiskMath PackMath

/-- A log in memory: a slice of bytes, at the head of a block of its own (of which more may be left than the slice's capacity), or one that has none. -/
def LogAt (w : World) (S : Nat → Prop) (v : Value) (bs : List UInt8) : Prop :=
  (∃ A, v = .slice A 0 0 ∧ bs = []) ∨ ∃ g cap cur, v = .slice (some ⟨g, 0, none⟩) bs.length cap ∧ S g ∧ w.heap[g]? = some (.cells cur 5 (0, 0)) ∧ bs.length ≤ cap ∧ cap ≤ maxLen ∧ cap ≤ cur.size ∧ cur.toList.take bs.length = bs.map bcell

theorem LogAt.form {w : World} {S : Nat → Prop} {v : Value} {bs : List UInt8} (h : LogAt w S v bs) : ∃ A cap, v = .slice A bs.length cap ∧ bs.length ≤ cap ∧ cap ≤ maxLen := by
  rcases h with ⟨A, rfl, rfl⟩ | ⟨g, cap, cur, rfl, _, _, h1, h2, _⟩
  · exact ⟨A, 0, rfl, Nat.le_refl _, by decide⟩
  · exact ⟨_, cap, rfl, h1, h2⟩

theorem LogAt.mono {w W : World} {S T : Nat → Prop} {v : Value} {bs : List UInt8} (h : LogAt w S v bs) (hS : ∀ i, S i → T i ∧ W.heap[i]? = w.heap[i]?) : LogAt W T v bs := by
  rcases h with h | ⟨g, cap, cur, h1, h2, h3, h4⟩
  · exact .inl h
  · exact .inr ⟨g, cap, cur, h1, (hS g h2).1, (hS g h2).2.trans h3, h4⟩

theorem LogAt.live {w : World} {S : Nat → Prop} {v : Value} {bs : List UInt8} (h : LogAt w S v bs) : LogAt w (fun i => S i ∧ i < w.heap.size) v bs := by
  rcases h with h | ⟨g, cap, cur, h1, h2, h3, h4⟩
  · exact .inl h
  · exact .inr ⟨g, cap, cur, h1, ⟨h2, heap_lt h3⟩, h3, h4⟩

/-- A disk's four cells. -/
def dcells (x : Dsk) (v : Value) : Array Value := #[.int .i64 x.room, .string x.snap, v, .int .i64 (x.safe.size : Int)]

/-- The bytes of a disk's log. -/
def DiskMath.Dsk.bytes (x : Dsk) : List UInt8 := (x.safe ++ x.rest).data.toList

theorem bytes_len (x : Dsk) : x.bytes.length = x.safe.size + x.rest.size := by
  unfold Dsk.bytes
  rw [Array.length_toList]
  exact ByteArray.size_append ..

def DiskIn (w : World) (S : Nat → Prop) (a : Addr) (x : Dsk) : Prop :=
  ∃ b v, a = ⟨b, 0, none⟩ ∧ S b ∧ w.heap[b]? = some (.cells (dcells x v) 50 (0, 0)) ∧ LogAt w (fun i => S i ∧ i ≠ b) v x.bytes ∧ ∀ i, S i → i < w.heap.size

theorem DiskIn.keep {W W' : World} {S : Nat → Prop} {a : Addr} {x : Dsk} (h : DiskIn W S a x) (hk : ∀ i, S i → W'.heap[i]? = W.heap[i]?) : DiskIn W' S a x := by
  obtain ⟨b, v, h1, h2, h3, h4, h5⟩ := h
  refine ⟨b, v, h1, h2, (hk b h2).trans h3, h4.mono fun i hi => ⟨hi, hk i hi.1⟩, fun i hi => ?_⟩
  have h6 := hk i hi
  have h7 : W.heap[i]? ≠ none := fun e => by have := Array.getElem?_eq_none_iff.1 e; have := h5 i hi; omega
  rcases Nat.lt_or_ge i W'.heap.size with q | q
  · exact q
  · rw [← h6, Array.getElem?_eq_none q] at h7; exact (h7 rfl).elim

/-- What a walk reads of a disk. -/
theorem DiskIn.read {w : World} {S : Nat → Prop} {a : Addr} {x : Dsk} (h : DiskIn w S a x) :
    ∃ b A cap, a = ⟨b, 0, none⟩ ∧ S b ∧ b < w.heap.size ∧ w.heap[b]? = some (.cells (dcells x (.slice A x.bytes.length cap)) 50 (0, 0)) ∧
      LogAt w (fun i => S i ∧ i ≠ b) (.slice A x.bytes.length cap) x.bytes ∧ x.bytes.length ≤ cap ∧ cap ≤ maxLen ∧
      w.cell? ⟨b, 0, none⟩ = some (.int .i64 x.room) ∧ w.cell? ⟨b, 1, none⟩ = some (.string x.snap) ∧ w.cell? ⟨b, 2, none⟩ = some (.slice A x.bytes.length cap) ∧ w.cell? ⟨b, 3, none⟩ = some (.int .i64 (x.safe.size : Int)) ∧
      (w.frozen? ⟨b, 0, none⟩ = false ∧ w.frozen? ⟨b, 1, none⟩ = false ∧ w.frozen? ⟨b, 2, none⟩ = false ∧ w.frozen? ⟨b, 3, none⟩ = false) ∧ ∀ i, S i → i < w.heap.size := by
  obtain ⟨b, v, h1, h2, h3, h4, h5⟩ := h
  obtain ⟨A, cap, rfl, h6, h7⟩ := h4.form
  refine ⟨b, A, cap, h1, h2, h5 b h2, h3, h4, h6, h7, cell_of_row _ _ 0 _ _ (0, 0) h3, cell_of_row _ _ 1 _ _ (0, 0) h3, cell_of_row _ _ 2 _ _ (0, 0) h3, cell_of_row _ _ 3 _ _ (0, 0) h3, ⟨frozen_of_row _ _ 0 _ _ h3, frozen_of_row _ _ 1 _ _ h3, frozen_of_row _ _ 2 _ _ h3, frozen_of_row _ _ 3 _ _ h3⟩, h5⟩

set_option maxRecDepth 100000 in
theorem snap_code (a : Addr) (S : Nat → Prop) (x : Dsk) (w : World) (h : DiskIn w S a x) :
    Calls Try.prog 22 #[.pointer (some a)] w fun e w' => e = .returned (.string x.snap) ∧ Below w.heap.size w w' := by
  obtain ⟨b, A, cap, rfl, _, hb, _, _, _, _, c0, c1, c2, c3, _⟩ := h.read
  go_enter Try.func22, Try.ntmps22
  go_wp2_with fail
  all_goals go_ret
  all_goals exact ⟨rfl, Below.refl _ _⟩

set_option maxRecDepth 100000 in
theorem synced_code (a : Addr) (S : Nat → Prop) (x : Dsk) (w : World) (h : DiskIn w S a x) :
    Calls Try.prog 23 #[.pointer (some a)] w fun e w' => e = .returned (.int .i64 (x.safe.size : Int)) ∧ Below w.heap.size w w' := by
  obtain ⟨b, A, cap, rfl, _, hb, _, _, _, _, c0, c1, c2, c3, _⟩ := h.read
  go_enter Try.func23, Try.ntmps23
  go_wp2_with fail
  all_goals go_ret
  all_goals exact ⟨rfl, Below.refl _ _⟩

set_option maxRecDepth 100000 in
theorem free_code (a : Addr) (S : Nat → Prop) (x : Dsk) (w : World) (h : DiskIn w S a x) (hx : x.ok) :
    Calls Try.prog 24 #[.pointer (some a)] w fun e w' => e = .returned (.int .i64 x.free) ∧ Below w.heap.size w w' := by
  obtain ⟨b, A, cap, rfl, _, hb, _, _, _, _, c0, c1, c2, c3, _⟩ := h.read
  have hl := bytes_len x
  have e1 : x.free = x.room - (x.snap.size : Int) - ((x.bytes.length : Nat) : Int) := by unfold Dsk.free; omega
  rw [e1]
  obtain ⟨k1, k2, k3⟩ := hx
  have i2 : 0 ≤ x.room - (x.snap.size : Int) - ((x.bytes.length : Nat) : Int) := by unfold Dsk.free at k3; omega
  clear k3 e1 hl
  go_enter Try.func24, Try.ntmps24
  go_wp2_with fail
  go_quiet (fail)
  go_wp2_with fail
  go_ret
  exact ⟨rfl, below_drewN' (Below.refl _ _) _⟩

/-- A disk's four cells, one of them written. -/
theorem dcells_room (x : Dsk) (v : Value) : dcells x v = #[.int .i64 x.room, .string x.snap, v, .int .i64 (x.safe.size : Int)] := rfl

theorem But.set {S : Nat → Prop} {a : World} {b j : Nat} (hb : S b) (v : Value) : But S a (a.setCell ⟨b, j, none⟩ v) := (But.refl S a).setCell (p := ⟨b, j, none⟩) (.inl hb) v

set_option maxRecDepth 100000 in
theorem sync_code (a : Addr) (S : Nat → Prop) (x : Dsk) (w : World) (h : DiskIn w S a x) :
    Calls Try.prog 14 #[.pointer (some a)] w fun e w' => ∃ S', e = .returned (.tuple #[]) ∧ DiskIn w' S' a (syncD x) ∧ (∀ i, S' i → S i ∨ w.heap.size ≤ i) ∧ But S w w' := by
  obtain ⟨b, A, cap, rfl, hS, hb, hr, hL, _, _, c0, c1, c2, c3, ⟨f0, f1, f2, f3⟩, hlt⟩ := h.read
  have key : DiskIn (w.setCell ⟨b, 3, none⟩ (.int .i64 ((x.bytes.length : Nat) : Int))) S ⟨b, 0, none⟩ (syncD x) := by
    have e : (syncD x).bytes = x.bytes := by
      show ((x.safe ++ x.rest) ++ (⟨#[]⟩ : ByteArray)).data.toList = (x.safe ++ x.rest).data.toList
      simp [ByteArray.data_append]
    refine ⟨b, .slice A x.bytes.length cap, rfl, hS, ?_, ?_, fun i hi => by rw [World.size_setCell]; exact hlt i hi⟩
    · rw [heap_setCell_same _ _ _ _ _ _ hr]
      rw [bytes_len]
      unfold dcells syncD
      simp only [ByteArray.size_append]
      rfl
    · rw [e]
      exact hL.mono fun i hi => ⟨hi, heap_setCell_other _ _ _ _ (fun q => hi.2 (by simpa using q))⟩
  have hB : But S w (w.setCell ⟨b, 3, none⟩ (.int .i64 ((x.bytes.length : Nat) : Int))) := But.set hS _
  have K := Lib.hid (And.intro key hB)
  clear key hB h hr hL hlt
  go_enter Try.func14, Try.ntmps14
  go_wp2_with fail
  exact bodyPost_end (results_none rfl _ _ _) rfl ⟨S, rfl, K.out.1, fun i hi => .inl hi, K.out.2⟩

set_option maxRecDepth 100000 in
theorem switch_code (a : Addr) (S : Nat → Prop) (x : Dsk) (s : ByteArray) (w : World) (h : DiskIn w S a x) :
    Calls Try.prog 16 #[.pointer (some a), .string s] w fun e w' => ∃ S', e = .returned (.int .i64 (swE x s)) ∧ DiskIn w' S' a (swD x s) ∧ (∀ i, S' i → S i ∨ w.heap.size ≤ i) ∧ But S w w' := by
  have h0 := h
  obtain ⟨b, A, cap, rfl, hS, hb, hr, hL, _, _, c0, c1, c2, c3, ⟨f0, f1, f2, f3⟩, hlt⟩ := h.read
  by_cases hd : x.room < (s.size : Int)
  · rw [show swD x s = x from if_pos hd, show swE x s = 13 from if_pos hd]
    have K := Lib.hid h0
    clear h0 h hr hL hlt
    go_enter Try.func16, Try.ntmps16
    go_wp2_with fail
    go_ret
    exact ⟨S, rfl, K.out, fun i hi => .inl hi, But.refl _ _⟩
  · rw [show swD x s = ⟨x.room, s, ⟨#[]⟩, ⟨#[]⟩⟩ from if_neg hd, show swE x s = 0 from if_neg hd]
    have key : DiskIn (((w.setCell ⟨b, 1, none⟩ (.string s)).setCell ⟨b, 2, none⟩ (.slice none 0 0)).setCell ⟨b, 3, none⟩ (.int .i64 0)) S ⟨b, 0, none⟩ ⟨x.room, s, ⟨#[]⟩, ⟨#[]⟩⟩ := by
      refine ⟨b, .slice none 0 0, rfl, hS, ?_, .inl ⟨none, rfl, rfl⟩, fun i hi => by simpa using hlt i hi⟩
      rw [heap_setCell_same _ _ _ _ _ _ (heap_setCell_same _ _ _ _ _ _ (heap_setCell_same _ _ _ _ _ _ hr))]
      rfl
    have hB : But S w (((w.setCell ⟨b, 1, none⟩ (.string s)).setCell ⟨b, 2, none⟩ (.slice none 0 0)).setCell ⟨b, 3, none⟩ (.int .i64 0)) := ((But.set hS _).setCell (.inl hS) _).setCell (.inl hS) _
    have K := Lib.hid (And.intro key hB)
    clear key hB h0 h hr hL hlt
    go_enter Try.func16, Try.ntmps16
    go_wp2_with fail
    go_ret
    first | exact ⟨S, rfl, K.out.1, fun i hi => .inl hi, K.out.2⟩ | exact ⟨rfl, S, K.out.1, fun i hi => .inl hi, K.out.2⟩

set_option maxRecDepth 100000 in
theorem new_code (room : Int) (w : World) :
    Calls Try.prog 9 #[.int .i64 room] w fun e w' => ∃ a S, e = .returned (.pointer (some a)) ∧ DiskIn w' S a (newD room) ∧ (∀ i, S i → w.heap.size ≤ i) ∧ Below w.heap.size w w' := by
  have key : ∀ r : Int, newD room = ⟨r, ⟨#[]⟩, ⟨#[]⟩, ⟨#[]⟩⟩ → Hid (DiskIn (w.alloc (.cells #[.int .i64 r, .string ⟨#[]⟩, .slice none 0 0, .int .i64 0] 50)) (fun i => i = w.heap.size) ⟨w.heap.size, 0, none⟩ (newD room)) := by
    intro r e
    rw [e]
    exact ⟨w.heap.size, .slice none 0 0, rfl, rfl, heap_alloc_new w _, .inl ⟨none, rfl, rfl⟩, fun i hi => by subst hi; simp⟩
  by_cases hd : room < 0
  · have K := key 0 (by unfold newD; rw [if_pos hd])
    clear key
    go_enter Try.func9, Try.ntmps9
    go_wp2_with fail
    go_ret
    first | exact ⟨_, _, rfl, K.out, fun i hi => Nat.le_of_eq hi.symm, (Below.refl _ _).alloc (Nat.le_refl _) _⟩ | exact ⟨_, rfl, _, K.out, fun i hi => Nat.le_of_eq hi.symm, (Below.refl _ _).alloc (Nat.le_refl _) _⟩
  · have K := key room (by unfold newD; rw [if_neg hd])
    clear key
    go_enter Try.func9, Try.ntmps9
    go_wp2_with fail
    go_ret
    first | exact ⟨_, _, rfl, K.out, fun i hi => Nat.le_of_eq hi.symm, (Below.refl _ _).alloc (Nat.le_refl _) _⟩ | exact ⟨_, rfl, _, K.out, fun i hi => Nat.le_of_eq hi.symm, (Below.refl _ _).alloc (Nat.le_refl _) _⟩

set_option maxRecDepth 100000 in
theorem nil_code (w : World) :
    (∀ s : ByteArray, Calls Try.prog 12 #[.pointer none, .string s] w fun e w' => e = .returned (.int .i64 13) ∧ Below w.heap.size w w') ∧
    (Calls Try.prog 14 #[.pointer none] w fun e w' => e = .returned (.tuple #[]) ∧ Below w.heap.size w w') ∧
    (∀ s : ByteArray, Calls Try.prog 16 #[.pointer none, .string s] w fun e w' => e = .returned (.int .i64 13) ∧ Below w.heap.size w w') ∧
    (∀ keep : Int, Calls Try.prog 18 #[.pointer none, .int .i64 keep] w fun e w' => e = .returned (.tuple #[]) ∧ Below w.heap.size w w') ∧
    (Calls Try.prog 22 #[.pointer none] w fun e w' => e = .returned (.string ⟨#[]⟩) ∧ Below w.heap.size w w') ∧
    (Calls Try.prog 21 #[.pointer none] w fun e w' => e = .returned (.string ⟨#[]⟩) ∧ Below w.heap.size w w') ∧
    (Calls Try.prog 23 #[.pointer none] w fun e w' => e = .returned (.int .i64 0) ∧ Below w.heap.size w w') ∧
    (Calls Try.prog 24 #[.pointer none] w fun e w' => e = .returned (.int .i64 0) ∧ Below w.heap.size w w') ∧
    (Calls Try.prog 11 #[.pointer none] w fun e w' => e = .returned (.pointer none) ∧ Below w.heap.size w w') := by
  refine ⟨fun s => ?_, ?_, fun s => ?_, fun keep => ?_, ?_, ?_, ?_, ?_, ?_⟩
  · go_enter Try.func12, Try.ntmps12
    go_wp2_with fail
    go_ret
    exact ⟨rfl, Below.refl _ _⟩
  · go_enter Try.func14, Try.ntmps14
    go_wp2_with fail
    exact bodyPost_end (results_none rfl _ _ _) rfl ⟨rfl, Below.refl _ _⟩
  · go_enter Try.func16, Try.ntmps16
    go_wp2_with fail
    go_ret
    exact ⟨rfl, Below.refl _ _⟩
  · go_enter Try.func18, Try.ntmps18
    go_wp2_with fail
    exact bodyPost_ret (results_none rfl _ _ _) rfl ⟨rfl, Below.refl _ _⟩
  · go_enter Try.func22, Try.ntmps22
    go_wp2_with fail
    go_ret
    exact ⟨rfl, Below.refl _ _⟩
  · go_enter Try.func21, Try.ntmps21
    go_wp2_with fail
    go_ret
    exact ⟨rfl, Below.refl _ _⟩
  · go_enter Try.func23, Try.ntmps23
    go_wp2_with fail
    go_ret
    exact ⟨rfl, Below.refl _ _⟩
  · go_enter Try.func24, Try.ntmps24
    go_wp2_with fail
    go_ret
    exact ⟨rfl, Below.refl _ _⟩
  · go_enter Try.func11, Try.ntmps11
    go_wp2_with fail
    go_ret
    exact ⟨rfl, Below.refl _ _⟩

end Go.Proofs.Ytgbfgjhaglmklaa
