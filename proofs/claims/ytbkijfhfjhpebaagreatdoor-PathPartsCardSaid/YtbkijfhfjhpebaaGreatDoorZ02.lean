/-
  The landed path: Split.
-/
import Derived.Test.YtbkijfhfjhpebaaGreatDoorZ01
import Derived.Test.YtbkijfhfjhpebaaGreatDoorZ01
import Derived.Shelf.Strings.SplitCore
import Derived.Shelf.Strings.Search3
import Derived.Shelf.Strings.Count
import Derived.Shelf.Strings.PiecesUse
import Derived.Shelf.Small.Strs
import Derived.Lib.OwnBridge
import Derived.Lib.SplitLaws
import Derived.Deep.Cut
import Derived.Deep.DeepCutAuto
import Derived.Shelf.Strings.Prefix
namespace Go.Proofs.YtbkijfhfjhpebaaGreatDoor
open Go.Shelf Go.RowKit StampMath GraphMath OpMath

/-- The library's pieces. -/
def pcs (p : ByteArray) : List ByteArray := Lib.splitB ⟨#[47]⟩ 0 (Lib.countB p ⟨#[47]⟩) p

theorem pcs_len (p : ByteArray) : (pcs p).length = Lib.countB p ⟨#[47]⟩ + 1 := Lib.splitB_all ⟨#[47]⟩ (by decide) 0 _ p rfl
theorem pcs_map (p : ByteArray) : (pcs p).map (·.data.toList) = pieces p.data.toList := splitB_pieces p
theorem pcs_few (p : ByteArray) : (pcs p).length ≤ p.size + 1 := by
  rw [← List.length_map (f := (·.data.toList)), pcs_map]
  exact pieces_len _

set_option maxHeartbeats 1000000 in
theorem split_lib (p : ByteArray) (w : World) (hp : p.size ≤ 2000) :
    Calls Tryz.prog 31 #[.string p, .string ⟨#[47]⟩] w fun e w' => e = .returned (.slice (some ⟨w.heap.size, 0, none⟩) (pcs p).length (pcs p).length) ∧ w' = w.alloc (.cells ((pcs p).map Value.string).toArray 9) := by
  have L := Tryz.splitS
  have hI : ∀ (x : ByteArray) (c : Array Value), x.size ≤ p.size → Calls Tryz.prog 77 #[.string x, .string ⟨#[47]⟩] (w.alloc (.cells c 9)) fun e w' => e = .returned (.int .i64 (Lib.indexB x ⟨#[47]⟩)) ∧ w' = w.alloc (.cells c 9) := fun x c _ => by
    have h := Any.strings_Index_one (P := Tryz.prog) (ρ := Tryz.splitS_ren) { L with } x 47 (w.alloc (.cells c 9))
    rw [← Lib.index_one] at h
    exact h
  have hC : Calls Tryz.prog 76 #[.string p, .string ⟨#[47]⟩] w fun e w' => e = .returned (.int .i64 (Lib.countB p ⟨#[47]⟩)) ∧ w' = w := by
    have h := Any.strings_Count_one (P := Tryz.prog) (ρ := Tryz.splitS_ren) { L with } p 47 w
    unfold Lib.countByte at h
    rw [← Lib.count_one] at h
    exact h
  have hle := Lib.countB_le ⟨#[47]⟩ (by decide) p.size p (Nat.le_refl _)
  have hlen := pcs_len p
  have c := Any.strings_genSplit_core (P := Tryz.prog) (ρ := Tryz.splitS_ren) { L with } path_str_infos p ⟨#[47]⟩ 0 (-1) (Lib.countB p ⟨#[47]⟩ + 1) w (by omega) (by decide) (Nat.zero_le _) hI hC (by decide) (by decide) (by rw [if_pos (by decide)]; omega)
  rw [Nat.add_sub_cancel] at c
  change Calls Tryz.prog 54 _ w fun e w' => e = .returned (.slice _ (pcs p).length _) ∧ w' = w.alloc (.cells (Lib.cellsOf (pcs p) _) 9) at c
  rw [← hlen, Lib.cellsOf_full] at c
  generalize pcs p = l at c hlen ⊢
  have C := Lib.hid c
  clear L hI hC hle hlen c
  go_enter Tryz.func31, Tryz.ntmps31
  go_wp2_with fail
  refine C.out.mono ?_
  rintro e w1 ⟨rfl, rfl⟩
  go_wp2_with fail
  go_ret
  exact ⟨rfl, rfl⟩

/-- The parts, of the pieces. -/
def kept (p : ByteArray) : List ByteArray := (pcs p).filter fun a => !noPart a

theorem kept_map (p : ByteArray) : (kept p).map (·.data.toList) = partsP p.data.toList := by
  unfold kept partsP
  rw [← pcs_map, List.filter_map]
  congr 2
  funext a
  simp [noPart]

theorem kept_le (p : ByteArray) : (kept p).length ≤ (pcs p).length := List.length_filter_le _ _

theorem str_cells (a : ByteArray) : (Value.string a).cells = #[.string a] := rfl

theorem below_drewN {B : Nat} {a w : World} (h : Below B a w) (q : Nat) : Below B a (w.drewN q) := ⟨h.os, h.tape, h.output, h.size, h.block⟩

set_option maxHeartbeats 1000000 in
/-- The library's DeleteFunc over the pieces that Split has made. -/
theorem delete_lib (p : ByteArray) (w : World) (hp : p.size ≤ 2000) :
    Calls Tryz.prog 30 #[.slice (some ⟨w.heap.size, 0, none⟩) (pcs p).length (pcs p).length, .func (.func 32) #[] #[]] (w.alloc (.cells ((pcs p).map Value.string).toArray 9)) fun e w' =>
      e = .returned (.slice (some ⟨w.heap.size, 0, none⟩) (kept p).length (pcs p).length) ∧ (∀ j (h : j < (kept p).length), w'.cell? ⟨w.heap.size, 0 + j, none⟩ = some (.string (kept p)[j])) ∧ w.heap.size < w'.heap.size ∧ Below w.heap.size w w' := by
  have hz : (pcs p).toArray.size = (pcs p).length := by simp
  have hfew := pcs_few p
  have hP : ∀ (W : World) (x : ByteArray), FnGives Tryz.prog 32 #[] #[Value.string x] (.bool (noPart x)) W := fun W x =>
    (isNothing_code x W).mono fun e w' ⟨he, hw⟩ => ⟨he, 0, by rw [← hw]; rfl⟩
  have hH : Sort.Holds Value.string (w.alloc (.cells ((pcs p).map Value.string).toArray 9)) w.heap.size 0 (pcs p).toArray := fun j hj => by
    have hj' : j < (pcs p).length := by rw [← hz]; exact hj
    refine ⟨?_, ?_⟩
    · rw [Lib.pieces_cell w (pcs p) _ j (pcs p)[j] (List.getElem?_eq_getElem hj')]
      simp [getElem!_pos, hj']
    · rw [Nat.zero_add]; exact Lib.pieces_frozen w _ _ j
  have h := AnyE.slices_DeleteFunc (P := Tryz.prog) (ρ := Tryz.delS_ren) Tryz.delS Value.string (fun _ => rfl) noPart 32 #[] (enters_of Tryz.func32 (by kernel_rfl) rfl) ⟨#[]⟩ Tryz.zeroValue9 w.heap.size 0 (pcs p).length (pcs p).toArray (w.alloc (.cells ((pcs p).map Value.string).toArray 9))
    (fun W x _ => hP W x) (fun _ _ _ x _ => hP _ x) hH (by rw [hz]; omega) (by rw [hz]; exact Nat.le_refl _)
  rw [hz, List.toList_toArray] at h
  refine h.mono ?_
  rintro e w' ⟨he, q, hw⟩
  have hk := kept_le p
  change _ = Ending.returned (.slice _ (kept p).length _) at he
  change w' = Sort.putRow Value.string _ _ _ (kept p ++ List.replicate ((pcs p).length - (kept p).length) (⟨#[]⟩ : ByteArray)).toArray at hw
  generalize hD : (kept p ++ List.replicate ((pcs p).length - (kept p).length) (⟨#[]⟩ : ByteArray)).toArray = D at hw
  have hL : D.size = (pcs p).toArray.size := by
    rw [hz, ← hD, List.size_toArray, List.length_append, List.length_replicate]
    omega
  have hq : Sort.Holds Value.string w' w.heap.size 0 D := by rw [hw]; exact Sort.holds_putRow _ _ _ _ _ _ (Sort.holds_ahead Value.string _ q _ _ _ hH) hL
  refine ⟨he, fun j hj => ?_, ?_, ?_⟩
  · rw [(hq j (by rw [hL, hz]; omega)).1]
    have e1 : D[j]? = some (kept p)[j] := by
      rw [← hD, List.getElem?_toArray, List.getElem?_append_left hj]
      exact List.getElem?_eq_getElem hj
    rw [getElem!_def, e1]
  · rw [hw, Sort.size_putRow]
    show w.heap.size < (w.alloc _).heap.size
    simp
  · rw [hw]
    exact Lib.below_putRow ((Below.refl _ _).alloc (Nat.le_refl _) _) (Nat.le_refl _)

theorem zero_byte (l : List UInt8) : (Lib.indexByte l 0 ≥ 0) ↔ l.any (· == 0) = true := by
  induction l with
  | nil => decide
  | cons x r ih =>
    have hg := Lib.indexByte_ge r 0
    unfold Lib.indexByte
    rw [List.any_cons]
    by_cases hx : (x == 0) = true
    · rw [if_pos hx, hx, Bool.true_or]; simp
    · rw [if_neg hx]
      have hx' : (x == 0) = false := by simpa using hx
      rw [hx', Bool.false_or, ← ih]
      split
      · rename_i hm
        have := beq_iff_eq.1 hm
        omega
      · rename_i hm
        have : ¬ Lib.indexByte r 0 = -1 := fun e => hm (beq_iff_eq.2 e)
        omega

end Go.Proofs.YtbkijfhfjhpebaaGreatDoor

/-
  The landed path: Split, whole.
-/
namespace Go.Proofs.YtbkijfhfjhpebaaGreatDoor
open Go.Shelf Go.RowKit StampMath GraphMath OpMath

/-- What Split leaves, in a block that is new. -/
def SplitNew (p : Bs) (w : World) (e : Ending) (w' : World) : Prop :=
  ∃ (A : Option Addr) (n c : Nat), e = .returned (.tuple #[.slice A n c, .int .i64 (errP p)]) ∧ StrsIn w' w'.heap.size A n (if errP p = 0 then partsP p else []) ∧ n ≤ c ∧ c ≤ maxLen ∧ (A = none → c = 0) ∧ Below w.heap.size w w' ∧ ∀ b, b < w.heap.size → StrsOff b w' A n (if errP p = 0 then partsP p else [])

theorem SplitNew.post {p : Bs} {w : World} {e : Ending} {w' : World} (h : SplitNew p w e w') : SplitPost p w e w' := by
  obtain ⟨A, n, c, h1, h2, h3, h4, h5, h6, _⟩ := h
  exact ⟨A, n, c, h1, h2, h3, h4, h5, h6⟩

theorem split_err {l : Bs} {w w' : World} (x : Int) (h : errP l = x) (hx : x ≠ 0) (hb : Below w.heap.size w w') : SplitNew l w (.returned (.tuple #[.slice none 0 0, .int .i64 x])) w' := by
  subst h
  exact ⟨none, 0, 0, rfl, by rw [if_neg hx]; exact StrsIn.none _ _ _, Nat.le_refl _, by decide, fun _ => rfl, hb, fun b _ => by rw [if_neg hx]; exact ⟨rfl, fun q => absurd q (Nat.lt_irrefl 0)⟩⟩

theorem long_kept (p : ByteArray) : (partsP p.data.toList).any (fun a => decide (8 < a.length)) = (kept p).any fun x => decide (8 < x.data.toList.length) := by
  rw [← kept_map, List.any_map]
  rfl

theorem contains_lib (p : ByteArray) (b m : Nat) (w : World) (hp : p.size ≤ 2000) (hc : ∀ j (h : j < (kept p).length), w.cell? ⟨b, 0 + j, none⟩ = some (.string (kept p)[j])) :
    Calls Tryz.prog 33 #[.slice (some ⟨b, 0, none⟩) (kept p).length m, .func (.func 34) #[] #[]] w fun e w' => e = .returned (.bool ((partsP p.data.toList).any fun a => decide (8 < a.length))) ∧ Below w.heap.size w w' := by
  have hk := kept_le p
  have hf := pcs_few p
  have h := AnyE.slices_ContainsFunc (P := Tryz.prog) (ρ := Tryz.conS_ren) Tryz.conS Value.string (fun x => decide (8 < x.data.toList.length)) 34 #[] (enters_of Tryz.func34 (by kernel_rfl) rfl) b 0 (kept p).length m (kept p) w
    (fun W x _ => (isLong_code x W).mono fun e w' ⟨he, hw⟩ => ⟨he, 0, by rw [← hw]; rfl⟩) (Nat.le_refl _) (by omega) (fun j hj => by rw [hc j hj, getElem!_pos (kept p) j hj])
  rw [List.take_length, ← long_kept] at h
  exact h.mono fun e w' ⟨he, q, hw⟩ => ⟨he, by rw [hw]; exact below_drewN (Below.refl _ _) q⟩

set_option maxHeartbeats 1600000 in
theorem split_code (p : ByteArray) (w : World) (hp : p.size ≤ 2000) : Calls Tryz.prog 16 #[.string p] w (SplitNew p.data.toList w) := by
  have hsz : p.size = p.data.toList.length := rfl
  by_cases h0 : p.data.toList = []
  · have t : (p.toList == []) = true := by rw [ByteArray.toList_eq, h0]; rfl
    have hE : Hid (errP p.data.toList = 3) := by unfold errP; rw [if_pos h0]; exact rfl
    clear h0 hsz
    go_enter Tryz.func16, Tryz.ntmps16
    go_wp2_with fail
    exact bodyPost_ret (v := .tuple #[.slice none 0 0, .int .i64 3]) (by simp [results, Tryz.results16, go_sem]) rfl (split_err 3 hE.out (by decide) (Below.refl _ _))
  have t : (p.toList == []) = false := by rw [ByteArray.toList_eq]; exact beq_eq_false_iff_ne.2 h0
  by_cases h1 : (128 : Int) < (p.size : Int)
  · have hE : Hid (errP p.data.toList = 10) := by unfold errP; rw [if_neg h0, if_pos (.inl (by omega))]; exact rfl
    clear h0 hsz
    go_enter Tryz.func16, Tryz.ntmps16
    go_wp2_with fail
    exact bodyPost_ret (v := .tuple #[.slice none 0 0, .int .i64 10]) (by simp [results, Tryz.results16, go_sem]) rfl (split_err 10 hE.out (by decide) (Below.refl _ _))
  have HS := Lib.hid (split_lib p w hp)
  have HD := Lib.hid (delete_lib p w hp)
  have HC := Lib.hid (fun b m (W : World) => contains_lib p b m W hp)
  have hE : errP p.data.toList = if (partsP p.data.toList).any (fun a => decide (8 < a.length)) = true then 10 else if p.data.toList.any (· == 0) = true then 1 else 0 := by
    unfold errP
    rw [if_neg h0]
    have : ¬ 128 < p.data.toList.length := by omega
    congr 1
    exact propext ⟨fun q => q.resolve_left this, .inr⟩
  have hI : ∀ W, Calls Tryz.prog 35 #[.string p, .int .u8 0] W fun e w' => e = .returned (.int .i64 (Lib.indexByte p.data.toList 0)) ∧ w' = W := fun W => Any.strings_IndexByte (P := Tryz.prog) (ρ := Tryz.idxB_ren) Tryz.idxB p 0 W
  have hz := zero_byte p.data.toList
  have hkm := kept_map p
  have hkl : (kept p).length ≤ (pcs p).length := kept_le p
  have hmx : (pcs p).length ≤ maxLen := by have := pcs_few p; unfold maxLen; omega
  obtain ⟨lg, hlg⟩ : ∃ lg, lg = (partsP p.data.toList).any fun a => decide (8 < a.length) := ⟨_, rfl⟩
  rw [← hlg] at HC hE
  generalize Lib.indexByte p.data.toList 0 = ix at hI hz
  have HI := Lib.hid hI
  have HE := Lib.hid hE
  have HK : Hid ((kept p).map (·.data.toList) = partsP p.data.toList ∧ (kept p).length ≤ (pcs p).length ∧ (pcs p).length ≤ maxLen) := ⟨hkm, hkl, hmx⟩
  have HZ := Lib.hid hz
  clear hE hI hz hkm hkl hmx h0 hsz hlg
  go_enter Tryz.func16, Tryz.ntmps16
  go_wp2_with fail
  refine HS.out.mono ?_
  rintro e w1 ⟨rfl, rfl⟩
  go_wp2_with fail
  refine HD.out.mono ?_
  rintro e w2 ⟨rfl, hc, hl, hb2⟩
  have B2 := Lib.hid hb2
  have HQ := Lib.hid (HC.out w.heap.size (pcs p).length w2 hc)
  have CC := Lib.hid hc
  have LL := Lib.hid hl
  clear hc hb2 hl HS HD HC
  go_wp2_with fail
  refine HQ.out.mono ?_
  rintro e w3 ⟨rfl, hb3⟩
  have B3 := Lib.hid (below_step B2.out hb3)
  have S3 := Lib.hid hb3
  clear hb3 HQ
  cases lg with
  | true =>
    go_wp2_with fail
    exact bodyPost_ret (v := .tuple #[.slice none 0 0, .int .i64 10]) (by simp [results, Tryz.results16, go_sem]) rfl (split_err 10 HE.out (by decide) B3.out)
  | false =>
    go_wp2_with fail
    refine (HI.out _).mono ?_
    rintro e w4 ⟨rfl, rfl⟩
    by_cases hix : 0 ≤ ix
    · go_wp2_with fail
      exact bodyPost_ret (v := .tuple #[.slice none 0 0, .int .i64 1]) (by simp [results, Tryz.results16, go_sem]) rfl (split_err 1 (by rw [HE.out, if_neg (by decide), if_pos (HZ.out.1 hix)]) (by decide) B3.out)
    · go_wp2_with fail
      have he : errP p.data.toList = 0 := by rw [HE.out, if_neg (by decide), if_neg fun q => by have := HZ.out.2 q; omega]
      obtain ⟨k1, k2, k3⟩ := HK.out
      have hcell : ∀ j (hj : j < (partsP p.data.toList).length), w4.cell? ⟨w.heap.size, 0 + j, none⟩ = some (.string ⟨(partsP p.data.toList)[j].toArray⟩) := by
        rw [← k1]
        intro j hj
        have hj' : j < (kept p).length := by simpa using hj
        rw [S3.out.cell (p := ⟨w.heap.size, 0 + j, none⟩) LL.out, CC.out j hj', List.getElem_map]
      have hlt3 : w.heap.size < w4.heap.size := Nat.lt_of_lt_of_le LL.out S3.out.size
      have hkl : (partsP p.data.toList).length = (kept p).length := by rw [← k1, List.length_map]
      refine bodyPost_ret (v := .tuple #[.slice (some ⟨w.heap.size, 0, none⟩) (kept p).length (pcs p).length, .int .i64 0]) (by simp [results, Tryz.results16, go_sem]) rfl ⟨some ⟨w.heap.size, 0, none⟩, (kept p).length, (pcs p).length, by rw [he], ?_, k2, k3, (fun q => by cases q), B3.out, fun b hb => ?_⟩
      · rw [he, if_pos rfl]
        exact ⟨hkl, fun _ => ⟨w.heap.size, 0, rfl, hlt3, hcell⟩⟩
      · rw [he, if_pos rfl]
        exact ⟨hkl, fun _ => ⟨w.heap.size, 0, rfl, hlt3, by omega, hcell⟩⟩

end Go.Proofs.YtbkijfhfjhpebaaGreatDoor

/-
  Two entries, two inodes held against each other, as the walk meets it.
-/
namespace Go.Proofs.YtbkijfhfjhpebaaGreatDoor
open Go.RowKit StampMath GraphMath

theorem ent_ext {a b : Ent} (h1 : a.dir.1 = b.dir.1) (h2 : a.dir.2 = b.dir.2) (h3 : a.name.toList = b.name.toList) (h4 : a.ino.1 = b.ino.1) (h5 : a.ino.2 = b.ino.2) : a = b := by
  obtain ⟨⟨_, _⟩, _, ⟨_, _⟩⟩ := a
  obtain ⟨⟨_, _⟩, _, ⟨_, _⟩⟩ := b
  have e := bytes_same h3
  simp_all

theorem ino_ext {a b : Ino} (h1 : a.id.1 = b.id.1) (h2 : a.id.2 = b.id.2) (h3 : a.kind = b.kind) (h4 : a.links = b.links) (h5 : a.mode = b.mode) (h6 : a.data.toList = b.data.toList) : a = b := by
  obtain ⟨⟨_, _⟩, _, _, _, _⟩ := a
  obtain ⟨⟨_, _⟩, _, _, _, _⟩ := b
  have e := bytes_same h6
  simp_all

theorem run_eqEnt (a b : Ent) (W : World) : (Op.equalIn 10000 70 (.agg #[.int .i64 a.dir.1, .int .i64 a.dir.2, .string a.name, .int .i64 a.ino.1, .int .i64 a.ino.2]) (.agg #[.int .i64 b.dir.1, .int .i64 b.dir.2, .string b.name, .int .i64 b.ino.1, .int .i64 b.ino.2])).run Tryz.prog W = .ok (decide (a = b)) W := by
  go_simp
  by_cases e : a = b
  · subst e
    simp
  · rw [decide_eq_false e]
    by_cases h1 : a.dir.1 = b.dir.1
    · rw [if_pos h1]
      by_cases h2 : a.dir.2 = b.dir.2
      · rw [if_pos h2]
        by_cases h3 : a.name.toList = b.name.toList
        · rw [if_pos h3]
          by_cases h4 : a.ino.1 = b.ino.1
          · rw [if_pos h4]
            by_cases h5 : a.ino.2 = b.ino.2
            · exact absurd (ent_ext h1 h2 h3 h4 h5) e
            · simp [h5]
          · rw [if_neg h4]
        · rw [if_neg h3]
      · rw [if_neg h2]
    · rw [if_neg h1]

theorem run_eqIno (a b : Ino) (W : World) : (Op.equalIn 10000 32 (.agg #[.int .i64 a.id.1, .int .i64 a.id.2, .int .i64 a.kind, .int .i64 a.links, .int .i64 a.mode, .string a.data]) (.agg #[.int .i64 b.id.1, .int .i64 b.id.2, .int .i64 b.kind, .int .i64 b.links, .int .i64 b.mode, .string b.data])).run Tryz.prog W = .ok (decide (a = b)) W := by
  go_simp
  by_cases e : a = b
  · subst e
    simp
  · rw [decide_eq_false e]
    by_cases h1 : a.id.1 = b.id.1
    · rw [if_pos h1]
      by_cases h2 : a.id.2 = b.id.2
      · rw [if_pos h2]
        by_cases h3 : a.kind = b.kind
        · rw [if_pos h3]
          by_cases h4 : a.links = b.links
          · rw [if_pos h4]
            by_cases h5 : a.mode = b.mode
            · rw [if_pos h5]
              by_cases h6 : a.data.toList = b.data.toList
              · exact absurd (ino_ext h1 h2 h3 h4 h5 h6) e
              · simp [h6]
            · rw [if_neg h5]
          · rw [if_neg h4]
        · rw [if_neg h3]
      · rw [if_neg h2]
    · rw [if_neg h1]

end Go.Proofs.YtbkijfhfjhpebaaGreatDoor

/-
  Two spots held against each other, as the walk meets it.
-/
namespace Go.Proofs.YtbkijfhfjhpebaaGreatDoor
open Go.RowKit StampMath GraphMath

theorem spt_ext {a b : Spt} (h1 : a.at_.1 = b.at_.1) (h2 : a.at_.2 = b.at_.2) (h3 : a.name.toList = b.name.toList) (h4 : a.ino.1 = b.ino.1) (h5 : a.ino.2 = b.ino.2) (h6 : a.there = b.there) : a = b := by
  obtain ⟨⟨_, _⟩, _, ⟨_, _⟩, _⟩ := a
  obtain ⟨⟨_, _⟩, _, ⟨_, _⟩, _⟩ := b
  have e := bytes_same h3
  simp_all

theorem run_eqSpt (a b : Spt) [Decidable (a = b)] (W : World) : (Op.equalIn 10000 38 (.agg #[.int .i64 a.at_.1, .int .i64 a.at_.2, .string a.name, .int .i64 a.ino.1, .int .i64 a.ino.2, .bool a.there]) (.agg #[.int .i64 b.at_.1, .int .i64 b.at_.2, .string b.name, .int .i64 b.ino.1, .int .i64 b.ino.2, .bool b.there])).run Tryz.prog W = .ok (decide (a = b)) W := by
  go_simp
  by_cases e : a = b
  · subst e
    simp
  · rw [decide_eq_false e]
    by_cases h1 : a.at_.1 = b.at_.1
    · rw [if_pos h1]
      by_cases h2 : a.at_.2 = b.at_.2
      · rw [if_pos h2]
        by_cases h3 : a.name.toList = b.name.toList
        · rw [if_pos h3]
          by_cases h4 : a.ino.1 = b.ino.1
          · rw [if_pos h4]
            by_cases h5 : a.ino.2 = b.ino.2
            · rw [if_pos h5]
              by_cases h6 : a.there = b.there
              · exact absurd (spt_ext h1 h2 h3 h4 h5 h6) e
              · simp [h6]
            · rw [if_neg h5]
          · rw [if_neg h4]
        · rw [if_neg h3]
      · rw [if_neg h2]
    · rw [if_neg h1]

/-- A spot's cells in its box. -/
theorem spt_cells {w : World} {g : Nat} {a b c d e f : Value} {T : TypeId} (h : w.heap[g]? = some (.cells #[a, b, c, d, e, f] T (0, 0))) :
    w.cell? ⟨g, 0, none⟩ = some a ∧ w.cell? ⟨g, 1, none⟩ = some b ∧ w.cell? ⟨g, 2, none⟩ = some c ∧ w.cell? ⟨g, 3, none⟩ = some d ∧ w.cell? ⟨g, 4, none⟩ = some e ∧ w.cell? ⟨g, 5, none⟩ = some f :=
  ⟨cell_of_row _ _ 0 _ _ (0, 0) h, cell_of_row _ _ 1 _ _ (0, 0) h, cell_of_row _ _ 2 _ _ (0, 0) h, cell_of_row _ _ 3 _ _ (0, 0) h, cell_of_row _ _ 4 _ _ (0, 0) h, cell_of_row _ _ 5 _ _ (0, 0) h⟩

end Go.Proofs.YtbkijfhfjhpebaaGreatDoor

/-
  Data are small in a graph that is fine, and in an operation that may be. It needs no program.
-/
namespace Go.Proofs.YtbkijfhfjhpebaaGreatDoor
open Go.RowKit StampMath GraphMath OpMath PackMath ExtentMath

theorem inoG_small {g : Gr} (hf : g.fine) (id : St) : (inoG g id).data.size ≤ 64 := by
  unfold inoG
  cases hq : getG g id with
  | none => exact Nat.zero_le _
  | some y =>
    obtain ⟨x, hx, _, rfl⟩ := get_some hq
    have hb := hf.bound x hx
    have hk := hf.ok.kinds x hx
    unfold boundOk1 at hb
    dsimp only [Option.getD_some]
    have h1 := hb.2.2.1
    have h2 := hb.2.2.2.1
    have h3 := hb.2.2.2.2
    rcases show x.kind = 1 ∨ x.kind = 2 ∨ x.kind = 3 by omega with q | q | q
    · have := h1 q; omega
    · have := h2 q; omega
    · have := h3 q; omega

theorem data_small {o : Opn} (hm : mayO o = true) (hk : o.k = 8) : o.data.size ≤ 64 := by
  obtain ⟨_, _, _, _, _, _, _, h8⟩ := mayO_parts hm
  unfold dataB at h8
  rw [if_neg (by omega), if_pos hk] at h8
  simp only [Bool.and_eq_true, decide_eq_true_iff] at h8
  omega

theorem wrote_is {g : Gr} (hf : g.fine) {o : Opn} (hm : mayO o = true) (hk : o.k = 8) (id : St) : (wR (inoG g id).data o.off o.data).1 = GraphMath.bytes (wL (inoG g id).data.data.toList o.data.data.toList o.off.toNat) := by
  obtain ⟨_, _, _, _, _, _, _, h8⟩ := mayO_parts hm
  unfold dataB at h8
  rw [if_neg (by omega), if_pos hk] at h8
  simp only [Bool.and_eq_true, decide_eq_true_iff] at h8
  have := inoG_small hf id
  unfold wR
  rw [if_neg (by omega), if_neg (by omega)]
  rfl

theorem cut_is {g : Gr} (hf : g.fine) {o : Opn} (hm : mayO o = true) (hk : o.k = 9) (id : St) : (tR (inoG g id).data o.off).1 = GraphMath.bytes (tL (inoG g id).data.data.toList o.off.toNat) := by
  obtain ⟨_, _, _, _, _, _, _, h8⟩ := mayO_parts hm
  unfold dataB at h8
  rw [if_neg (by omega), if_neg (by omega), if_pos hk] at h8
  simp only [Bool.and_eq_true, decide_eq_true_iff] at h8
  have := inoG_small hf id
  unfold tR
  rw [if_neg (by omega), if_neg (by omega)]
  rfl

end Go.Proofs.YtbkijfhfjhpebaaGreatDoor

/-
  Plain mathematics of the landed apply: what its questions answer is why an operation can't be done; what its changes make is what an operation makes. It needs no program.
-/
namespace Go.Proofs.YtbkijfhfjhpebaaGreatDoor.GraphMath
open StampMath OpMath ExtentMath

/-- The inode that an operation's entry is of. -/
def namedG (g : Gr) (o : Opn) : Option Ino := if lookE g.E (oAt o) o.name = some (oIno o) then getG g (oIno o) else none

/-- The target's inode. -/
def aimG (g : Gr) (o : Opn) : Option Ino := (targetG g o).bind (getG g)

theorem not_false {b : Bool} (h : ¬ b = false) : b = true := by cases b with | false => exact absurd rfl h | true => rfl

theorem kind_none {g : Gr} {id : St} (q : getG g id = none) : kindG g id = 0 := by unfold kindG; rw [q]; rfl

theorem kind_is {g : Gr} (h : g.ok) {id : St} {x : Ino} (q : getG g id = some x) : kindG g id = x.kind ∧ x.id = id ∧ 1 ≤ x.kind ∧ x.kind ≤ 3 ∧ x.links = (linksE g.E id : Int) := by
  obtain ⟨y, hy, h1, h2⟩ := get_some q
  have hk := h.kinds y hy
  refine ⟨by unfold kindG; rw [q]; rfl, by rw [h2]; exact h1, by rw [h2]; exact hk.1, by rw [h2]; exact hk.2, by rw [h2]⟩

theorem Gr.ok.entry {g : Gr} (h : g.ok) {d : St} {nm : ByteArray} {id : St} (q : lookE g.E d nm = some id) : ∃ x, getG g id = some x := by
  unfold lookE at q
  rw [Option.map_eq_some_iff] at q
  obtain ⟨e, he, rfl⟩ := q
  obtain ⟨x, hx, hxe⟩ := h.inos e (List.mem_of_find?_eq_some he)
  exact ⟨_, by rw [← hxe]; exact h.get hx⟩

theorem Gr.ok.list_kind {g : Gr} (h : g.ok) {id : St} (hk : GraphMath.kindG g id ≠ 1) : listE g.E id = [] := h.list_none hk

/-- Why can't an inode be made. -/
def makeB (ba : Bool) (ka : Int) (bn bi : Bool) (n : Int) : Int := if ba = false then 3 else if ka ≠ 1 then 6 else if bn = true ∨ bi = true then 4 else if 40 ≤ n then 13 else 0
def linkB (ba bx : Bool) (ka kx : Int) (bn : Bool) (lx : Int) : Int := if ba = false ∨ bx = false then 3 else if ka ≠ 1 then 6 else if kx = 1 then 5 else if bn = true then 4 else if 6 ≤ lx then 12 else 0
def unlinkB (b : Bool) (k : Int) : Int := if b = false then 3 else if k = 1 then 5 else 0
def rmdirB (b : Bool) (k n : Int) : Int := if b = false then 3 else if k ≠ 1 then 6 else if 0 < n then 7 else 0
def replaceB (k ka n : Int) : Int := if ka = 1 ∧ k ≠ 1 then 5 else if k = 1 ∧ ka ≠ 1 then 6 else if 0 < n then 7 else 0
def fillB (b : Bool) (k : Int) : Int := if b = false then 3 else if k = 1 then 5 else if k = 3 then 8 else 0
def setB (b : Bool) : Int := if b = false then 3 else 0

theorem some_kind {g : Gr} (h : g.ok) (id : St) : (getG g id).isSome = decide (kindG g id ≠ 0) := by
  cases q : getG g id with
  | none => rw [kind_none q]; rfl
  | some x =>
    have := kind_is h q
    rw [Option.isSome_some, this.1]
    exact (decide_eq_true (by omega)).symm

theorem make_why {g : Gr} (h : g.ok) {o : Opn} (hm : mayO o = true) (hk : o.k ≤ 3) :
    whyA g o = makeB (getG g (oAt o)).isSome ((getG g (oAt o)).getD noIno).kind (lookE g.E (oAt o) o.name).isSome (getG g (oSt o)).isSome (g.I.length : Int) := by
  have h4 : o.k ≠ 4 := by omega
  unfold whyA makesW makeB
  rw [if_neg (by rw [hm]; decide), if_pos (by omega), some_kind h, some_kind h, show ((getG g (oAt o)).getD noIno).kind = kindG g (oAt o) from rfl]
  have e40 : (40 ≤ g.I.length) = ((40 : Int) ≤ (g.I.length : Int)) := propext (by omega)
  simp [h4, e40]

theorem link_why' {g : Gr} (h : g.ok) {o : Opn} (hm : mayO o = true) (hk : o.k = 4) :
    whyA g o = linkB (getG g (oAt o)).isSome (getG g (oIno o)).isSome ((getG g (oAt o)).getD noIno).kind ((getG g (oIno o)).getD noIno).kind (lookE g.E (oAt o) o.name).isSome ((getG g (oIno o)).getD noIno).links := by
  unfold whyA makesW linkB
  rw [if_neg (by rw [hm]; decide), if_pos (by omega), some_kind h, some_kind h, show ((getG g (oAt o)).getD noIno).kind = kindG g (oAt o) from rfl, show ((getG g (oIno o)).getD noIno).kind = kindG g (oIno o) from rfl, show ((getG g (oIno o)).getD noIno).links = linksG g (oIno o) from rfl]
  simp [hk]

theorem named_none {g : Gr} (h : g.ok) {o : Opn} : (lookE g.E (oAt o) o.name ≠ some (oIno o) ∨ kindG g (oIno o) = 0) ↔ (namedG g o).isSome = false := by
  unfold namedG
  by_cases q : lookE g.E (oAt o) o.name = some (oIno o)
  · rw [if_pos q, some_kind h]
    simp [q]
  · rw [if_neg q]
    simp [q]

theorem named_kind {g : Gr} {o : Opn} (q : (namedG g o).isSome = true) : ((namedG g o).getD noIno).kind = kindG g (oIno o) := by
  unfold namedG at q ⊢
  split at q
  · rename_i e; rw [if_pos e]; rfl
  · cases q

theorem named_some {g : Gr} (h : g.ok) {o : Opn} {x : Ino} (q : namedG g o = some x) : lookE g.E (oAt o) o.name = some (oIno o) ∧ getG g (oIno o) = some x ∧ x.id = oIno o ∧ kindG g (oIno o) = x.kind := by
  unfold namedG at q
  split at q
  · rename_i e
    have := kind_is h q
    exact ⟨e, q, this.2.1, this.1⟩
  · cases q

theorem unlink_why {g : Gr} (h : g.ok) {o : Opn} (hm : mayO o = true) (hk : o.k = 5) : whyA g o = unlinkB (namedG g o).isSome ((namedG g o).getD noIno).kind := by
  unfold whyA unlinkB
  rw [if_neg (by rw [hm]; decide), if_neg (by omega), if_neg (by omega)]
  by_cases q : (namedG g o).isSome = false
  · rw [if_pos q]
    have := (named_none h).2 q
    rw [if_pos (by rcases this with z | z; exact Or.inl ⟨by omega, z⟩; exact Or.inr z)]
  · rw [if_neg q]
    have hn := mt (named_none h).1 q
    have hn1 : lookE g.E (oAt o) o.name = some (oIno o) := Classical.byContradiction fun z => hn (Or.inl z)
    rw [if_neg (fun z => hn (z.elim (fun y => Or.inl y.2) Or.inr)), named_kind (not_false q)]
    simp [hk]

theorem rmdir_why {g : Gr} (h : g.ok) {o : Opn} (hm : mayO o = true) (hk : o.k = 6) : whyA g o = rmdirB (namedG g o).isSome ((namedG g o).getD noIno).kind ((listE g.E (oIno o)).length : Int) := by
  unfold whyA rmdirB
  rw [if_neg (by rw [hm]; decide), if_neg (by omega), if_neg (by omega)]
  by_cases q : (namedG g o).isSome = false
  · rw [if_pos q]
    have := (named_none h).2 q
    rw [if_pos (by rcases this with z | z; exact Or.inl ⟨by omega, z⟩; exact Or.inr z)]
  · rw [if_neg q]
    have hn := mt (named_none h).1 q
    rw [if_neg (fun z => hn (z.elim (fun y => Or.inl y.2) Or.inr)), named_kind (not_false q)]
    rw [if_neg (by omega)]
    by_cases c : kindG g (oIno o) ≠ 1
    · rw [if_pos ⟨hk, c⟩, if_pos c]
    rw [if_neg (fun z => c z.2), if_neg c]
    by_cases d : 0 < (listE g.E (oIno o)).length
    · rw [if_pos ⟨hk, d⟩, if_pos (by omega)]
    · rw [if_neg (fun z => d z.2), if_neg (by omega), if_neg (by omega)]

theorem fill_why {g : Gr} (h : g.ok) {o : Opn} (hm : mayO o = true) (hk : o.k = 8 ∨ o.k = 9) : whyA g o = fillB (getG g (oIno o)).isSome ((getG g (oIno o)).getD noIno).kind := by
  unfold whyA fillB
  rw [if_neg (by rw [hm]; decide), if_neg (by omega), if_neg (by omega), some_kind h, show ((getG g (oIno o)).getD noIno).kind = kindG g (oIno o) from rfl]
  have h6 : ¬ o.k ≤ 6 := by omega
  have h6' : o.k ≠ 6 := by omega
  simp [h6, h6', hk]

theorem set_why {g : Gr} (h : g.ok) {o : Opn} (hm : mayO o = true) (hk : o.k = 10) : whyA g o = setB (getG g (oIno o)).isSome := by
  unfold whyA setB
  rw [if_neg (by rw [hm]; decide), if_neg (by omega), if_neg (by omega), some_kind h]
  simp [hk]

/-- The target is there, and is its inode; the rest of Rename. -/
theorem rename_none {g : Gr} (h : g.ok) {o : Opn} (hm : mayO o = true) (hk : o.k = 7) (hq : namedG g o = none ∨ getG g (oTo o) = none) : whyA g o = 3 := by
  unfold whyA renamesW
  rw [if_neg (by rw [hm]; decide), if_neg (by omega), if_pos hk]
  rcases hq with q | q
  · have := (named_none h).2 (by rw [q]; rfl)
    rcases this with z | z
    · rw [if_pos (Or.inl z)]
    · by_cases z' : lookE g.E (oAt o) o.name = some (oIno o)
      · obtain ⟨x, hx⟩ := h.entry z'
        have := kind_is h hx
        omega
      · rw [if_pos (Or.inl z')]
  · rw [if_pos (Or.inr (kind_none q))]

theorem aim_none {g : Gr} (h : g.ok) {o : Opn} : aimG g o = none ↔ targetG g o = none := by
  unfold aimG
  cases q : targetG g o with
  | none => simp
  | some t =>
    obtain ⟨x, hx⟩ := h.entry (show lookE g.E (oTo o) o.new = some t from q)
    simp [hx]

theorem aim_some {g : Gr} (h : g.ok) {o : Opn} {t : Ino} (q : aimG g o = some t) : targetG g o = some t.id ∧ getG g t.id = some t ∧ kindG g t.id = t.kind := by
  unfold aimG at q
  cases hq : targetG g o with
  | none => rw [hq] at q; cases q
  | some i =>
    rw [hq] at q
    have q' : getG g i = some t := q
    have := kind_is h q'
    rw [this.2.1]
    exact ⟨rfl, q', this.1⟩

def renameB (k kt : Int) (same un : Bool) (t : Option Ino) (n : Int) : Int := if kt ≠ 1 then 6 else if same = true then 0 else if k = 1 ∧ un = true then 8 else match t with | none => 0 | some t => replaceB k t.kind n

theorem rename_why {g : Gr} (h : g.ok) {o : Opn} (hm : mayO o = true) (hk : o.k = 7) {x t : Ino} (hx : namedG g o = some x) (ht : getG g (oTo o) = some t) :
    whyA g o = renameB x.kind t.kind (match aimG g o with | none => false | some a => decide (a.id = oIno o)) (underG g (oTo o) (oIno o)) (aimG g o) (match aimG g o with | none => 0 | some a => ((listE g.E a.id).length : Int)) := by
  obtain ⟨n1, n2, n3, n4⟩ := named_some h hx
  have t1 := kind_is h ht
  unfold whyA renamesW renameB
  rw [if_neg (by rw [hm]; decide), if_neg (by omega), if_pos hk, if_neg (by rw [n1, t1.1]; rintro (z | z); exact z rfl; omega), t1.1, n4]
  by_cases c1 : t.kind ≠ 1
  · rw [if_pos c1, if_pos c1]
  rw [if_neg c1, if_neg c1]
  cases hq : aimG g o with
  | none =>
    have ha := (aim_none h).1 hq
    rw [ha]
    simp
  | some a =>
    obtain ⟨a1, a2, a3⟩ := aim_some h hq
    rw [a1]
    dsimp only
    by_cases c2 : a.id = oIno o
    · rw [if_pos (by rw [c2]), if_pos (decide_eq_true c2)]
    rw [if_neg (fun z => c2 (Option.some.inj z)), if_neg (show ¬ decide (a.id = oIno o) = true by simpa using c2)]
    by_cases c3 : x.kind = 1 ∧ underG g (oTo o) (oIno o) = true
    · rw [if_pos c3, if_pos c3]
    rw [if_neg c3, if_neg c3]
    unfold replaceB
    simp only [Option.isSome_some, Option.getD_some, true_and, a3]
    by_cases c4 : a.kind = 1
    · by_cases d : 0 < (listE g.E a.id).length
      · have d' : (0 : Int) < ((listE g.E a.id).length : Int) := by omega
        simp only [c4, d, d', and_true, if_true, ne_eq, not_true_eq_false, and_false, if_false, true_and]
      · have d' : ¬ (0 : Int) < ((listE g.E a.id).length : Int) := by omega
        simp only [c4, d, d', ne_eq, not_true_eq_false, and_false, if_false, true_and]
    · have hl : listE g.E a.id = [] := h.list_none (by rw [a3]; exact c4)
      simp [c4, hl]

/-- What goes with its last name. -/
theorem gone_drop {g : Gr} (h : g.ok) (d : St) (nm : ByteArray) : (dropG (untieG g d nm).1 (untieG g d nm).2.1).1 = goneG g d nm := by
  unfold goneG
  by_cases c : linksE (untieG g d nm).1.E (untieG g d nm).2.1 = 0
  · rw [if_pos c]
  · rw [if_neg c]
    have hok := h.untie d nm
    unfold dropG
    split
    · rfl
    · rename_i x hx
      have hi := (kind_is hok hx).2.2.2.2
      split
      · rfl
      · rw [if_pos (Or.inl (by rw [hi]; omega))]

/-- What Rename makes, by the target's inode. -/
theorem rename_made {g : Gr} (h : g.ok) {o : Opn} (hk : o.k = 7) : madeA g o = match aimG g o with
    | none => tie1 (untieG g (oAt o) o.name).1 (oTo o) o.new (oIno o)
    | some a => if a.id = oIno o then g else tie1 (untieG (goneG g (oTo o) o.new) (oAt o) o.name).1 (oTo o) o.new (oIno o) := by
  unfold madeA
  rw [if_neg (by omega), if_neg (by omega), if_neg (by omega), if_pos hk]
  cases hq : aimG g o with
  | none =>
    rw [(aim_none h).1 hq]
    simp
  | some a =>
    rw [(aim_some h hq).1]
    by_cases c : a.id = oIno o
    · simp [c]
    · simp [c]

theorem add_made {g : Gr} {o : Opn} (hk : 1 ≤ o.k) (hk3 : o.k ≤ 3) : madeA g o = (tieG (nameB o.name) (setG (makeG g (oSt o) (makesO o)).1 (oSt o) 0 o.data).1 ⟨oAt o, o.name, oSt o⟩).1 := by
  unfold madeA makesO
  rw [if_pos hk3, if_pos ⟨hk, hk3⟩]
  rfl

theorem link_made {g : Gr} {o : Opn} (hk : o.k = 4) : madeA g o = (tieG (nameB o.name) g ⟨oAt o, o.name, oIno o⟩).1 := by
  unfold madeA
  rw [if_neg (by omega), if_pos hk]
  rfl

theorem take_made {g : Gr} {o : Opn} (hk : o.k = 5 ∨ o.k = 6) : madeA g o = goneG g (oAt o) o.name := by
  unfold madeA
  rw [if_neg (by omega), if_neg (by omega), if_pos (by omega)]

/-- What is written is the inode's that there is. -/
theorem kept_id {g : Gr} (h : g.ok) {o : Opn} (hw : whyA g o = 0) (hk : 8 ≤ o.k) (h10 : o.k ≤ 10) : (inoG g (oIno o)).id = oIno o := by
  have hk0 : kindG g (oIno o) ≠ 0 := fun q => by
    unfold whyA at hw
    split at hw
    · cases hw
    · rw [if_neg (by omega), if_neg (by omega), if_pos (Or.inr q)] at hw
      cases hw
  obtain ⟨x, hx⟩ := h.there hk0
  have := kind_is h hx
  unfold inoG
  rw [hx]
  exact this.2.1

theorem write_made {g : Gr} (hf : g.fine) {o : Opn} (hm : mayO o = true) (hk : o.k = 8) : madeA g o = (setG g (oIno o) (inoG g (oIno o)).mode (wR (inoG g (oIno o)).data o.off o.data).1).1 := by
  rw [wrote_is hf hm hk]
  unfold madeA
  rw [if_neg (by omega), if_neg (by omega), if_neg (by omega), if_neg (by omega), if_pos hk]

theorem trunc_made {g : Gr} (hf : g.fine) {o : Opn} (hm : mayO o = true) (hk : o.k = 9) : madeA g o = (setG g (oIno o) (inoG g (oIno o)).mode (tR (inoG g (oIno o)).data o.off).1).1 := by
  rw [cut_is hf hm hk]
  unfold madeA
  rw [if_neg (by omega), if_neg (by omega), if_neg (by omega), if_neg (by omega), if_neg (by omega), if_pos hk]

theorem mode_made {g : Gr} {o : Opn} (hk : o.k = 10) : madeA g o = (setG g (oIno o) o.off (inoG g (oIno o)).data).1 := by
  unfold madeA
  rw [if_neg (by omega), if_neg (by omega), if_neg (by omega), if_neg (by omega), if_neg (by omega), if_neg (by omega)]

end Go.Proofs.YtbkijfhfjhpebaaGreatDoor.GraphMath

/-
  The landed apply: a deed in memory; what it asks of a graph.
-/
namespace Go.Proofs.YtbkijfhfjhpebaaGreatDoor
open Go.RowKit StampMath GraphMath OpMath PackMath

/-- A deed: a graph, and an operation. -/
def deedA (a : Addr) (o : Opn) : Array Value := #[.pointer (some a), .int .i64 o.st, .int .i64 o.sr, .int .i64 o.k, .int .i64 o.pt, .int .i64 o.pr, .int .i64 o.it, .int .i64 o.ir, .int .i64 o.tt, .int .i64 o.tr, .string o.name, .string o.new, .int .i64 o.off, .string o.data]

theorem deed_cells {w : World} {g : Nat} {a : Addr} {o : Opn} {T : TypeId} (h : w.heap[g]? = some (.cells (deedA a o) T (0, 0))) :
    w.cell? ⟨g, 0, none⟩ = some (.pointer (some a)) ∧ w.cell? ⟨g, 1, none⟩ = some (.int .i64 o.st) ∧ w.cell? ⟨g, 2, none⟩ = some (.int .i64 o.sr) ∧ w.cell? ⟨g, 3, none⟩ = some (.int .i64 o.k) ∧ w.cell? ⟨g, 4, none⟩ = some (.int .i64 o.pt) ∧ w.cell? ⟨g, 5, none⟩ = some (.int .i64 o.pr) ∧
    w.cell? ⟨g, 6, none⟩ = some (.int .i64 o.it) ∧ w.cell? ⟨g, 7, none⟩ = some (.int .i64 o.ir) ∧ w.cell? ⟨g, 8, none⟩ = some (.int .i64 o.tt) ∧ w.cell? ⟨g, 9, none⟩ = some (.int .i64 o.tr) ∧
    w.cell? ⟨g, 10, none⟩ = some (.string o.name) ∧ w.cell? ⟨g, 11, none⟩ = some (.string o.new) ∧ w.cell? ⟨g, 12, none⟩ = some (.int .i64 o.off) ∧ w.cell? ⟨g, 13, none⟩ = some (.string o.data) :=
  ⟨cell_of_row _ _ 0 _ _ (0, 0) h, cell_of_row _ _ 1 _ _ (0, 0) h, cell_of_row _ _ 2 _ _ (0, 0) h, cell_of_row _ _ 3 _ _ (0, 0) h, cell_of_row _ _ 4 _ _ (0, 0) h, cell_of_row _ _ 5 _ _ (0, 0) h, cell_of_row _ _ 6 _ _ (0, 0) h,
    cell_of_row _ _ 7 _ _ (0, 0) h, cell_of_row _ _ 8 _ _ (0, 0) h, cell_of_row _ _ 9 _ _ (0, 0) h, cell_of_row _ _ 10 _ _ (0, 0) h, cell_of_row _ _ 11 _ _ (0, 0) h, cell_of_row _ _ 12 _ _ (0, 0) h, cell_of_row _ _ 13 _ _ (0, 0) h⟩

theorem rep_below {H : GraphHave} {a : Addr} {S : Nat → Prop} {g : Gr} {w W : World} (h : H.rep w S a g) (hb : Below w.heap.size w W) : H.rep W S a g := H.keep h fun i hi => hb.block i (H.lt h i hi)

set_option maxRecDepth 100000 in
theorem dirQ_code (x : Ino) (w : World) :
    Calls Tryz.prog 147 #[.agg (inoA x)] w fun e w' => e = .returned (.bool (x.kind == 1)) ∧ Below w.heap.size w w' := by
  unfold inoA
  go_enter Tryz.func147, Tryz.ntmps147
  go_wp2_with fail
  go_ret
  exact ⟨rfl, (Below.refl _ _).alloc (Nat.le_refl _) _⟩

set_option maxRecDepth 100000 in
theorem fullQ_code (H : GraphHave) (a : Addr) (S : Nat → Prop) (g : Gr) (o : Opn) (d : St) (w : World) (h : H.rep w S a g) (hg : g.ok) :
    Calls Tryz.prog 149 #[.agg (deedA a o), .agg (stA d)] w fun e w' => e = .returned (.bool (decide (0 < (listE g.E d).length))) ∧ Below w.heap.size w w' := by
  have LI : Hid (∀ W : World, Below w.heap.size w W → Calls Tryz.prog 153 #[.pointer (some a), .agg #[.int .i64 d.1, .int .i64 d.2]] W fun e w' => ∃ B c, e = .returned (.slice B (listE g.E d).length c) ∧ Below W.heap.size W w') := Lib.hid fun W hW => by
    refine (H.list a S g d W (rep_below h hW) hg).mono ?_
    rintro e w' ⟨v, rfl, hown, hb⟩
    obtain ⟨B, c, rfl, _⟩ := ents_own rfl hown
    exact ⟨B, c, rfl, hb⟩
  generalize (listE g.E d).length = n at LI ⊢
  clear h hg
  have hb0 : Below w.heap.size w ((w.alloc (.cells (deedA a o) 110)).alloc (.cells (stA d) 24)) := ((Below.refl _ _).alloc (Nat.le_refl _) _).alloc (by simp) _
  unfold deedA stA at hb0 ⊢
  have hcase : (decide (0 < n) = true ∧ decide ((n : Int) > 0) = true) ∨ (decide (0 < n) = false ∧ decide ((n : Int) > 0) = false) := by
    by_cases hn : 0 < n
    · exact Or.inl ⟨decide_eq_true hn, decide_eq_true (by omega)⟩
    · exact Or.inr ⟨decide_eq_false hn, decide_eq_false (by omega)⟩
  rcases hcase with ⟨h1, h2⟩ | ⟨h1, h2⟩
  all_goals
    rw [h1]
    clear h1
    go_enter Tryz.func149, Tryz.ntmps149
    go_wp2_with fail
    refine (LI.out _ hb0).mono ?_
    rintro e w1 ⟨B, c, rfl, hb1⟩
    have hb2 := below_step hb0 hb1
    clear hb0 hb1 LI
    go_wp2_with fail
    go_ret
    exact ⟨by simp at h2 ⊢; omega, hb2⟩

end Go.Proofs.YtbkijfhfjhpebaaGreatDoor

/-
  The landed path: who goes the way, in memory; the root; is a path from it.
-/
namespace Go.Proofs.YtbkijfhfjhpebaaGreatDoor
open Go.Shelf Go.RowKit StampMath GraphMath OpMath

/-- Who goes the way: a graph, what was come to, what is left, the links. -/
def walkA (a : Addr) (s : Spt) (A : Option Addr) (n c : Nat) (m : Int) : Array Value := #[.pointer (some a), .int .i64 s.at_.1, .int .i64 s.at_.2, .string s.name, .int .i64 s.ino.1, .int .i64 s.ino.2, .bool s.there, .slice A n c, .int .i64 m]

theorem walk_cells {w : World} {g : Nat} {a : Addr} {s : Spt} {A : Option Addr} {n c : Nat} {m : Int} {T : TypeId} (h : w.heap[g]? = some (.cells (walkA a s A n c m) T (0, 0))) :
    w.cell? ⟨g, 0, none⟩ = some (.pointer (some a)) ∧ w.cell? ⟨g, 1, none⟩ = some (.int .i64 s.at_.1) ∧ w.cell? ⟨g, 2, none⟩ = some (.int .i64 s.at_.2) ∧ w.cell? ⟨g, 3, none⟩ = some (.string s.name) ∧
    w.cell? ⟨g, 4, none⟩ = some (.int .i64 s.ino.1) ∧ w.cell? ⟨g, 5, none⟩ = some (.int .i64 s.ino.2) ∧ w.cell? ⟨g, 6, none⟩ = some (.bool s.there) ∧ w.cell? ⟨g, 7, none⟩ = some (.slice A n c) ∧ w.cell? ⟨g, 8, none⟩ = some (.int .i64 m) :=
  ⟨cell_of_row _ _ 0 _ _ (0, 0) h, cell_of_row _ _ 1 _ _ (0, 0) h, cell_of_row _ _ 2 _ _ (0, 0) h, cell_of_row _ _ 3 _ _ (0, 0) h, cell_of_row _ _ 4 _ _ (0, 0) h, cell_of_row _ _ 5 _ _ (0, 0) h, cell_of_row _ _ 6 _ _ (0, 0) h, cell_of_row _ _ 7 _ _ (0, 0) h, cell_of_row _ _ 8 _ _ (0, 0) h⟩

theorem walk_free {w : World} {g : Nat} {a : Addr} {s : Spt} {A : Option Addr} {n c : Nat} {m : Int} {T : TypeId} (h : w.heap[g]? = some (.cells (walkA a s A n c m) T (0, 0))) :
    w.frozen? ⟨g, 1, none⟩ = false ∧ w.frozen? ⟨g, 2, none⟩ = false ∧ w.frozen? ⟨g, 3, none⟩ = false ∧ w.frozen? ⟨g, 4, none⟩ = false ∧ w.frozen? ⟨g, 5, none⟩ = false ∧ w.frozen? ⟨g, 6, none⟩ = false ∧ w.frozen? ⟨g, 7, none⟩ = false ∧ w.frozen? ⟨g, 8, none⟩ = false :=
  ⟨frozen_of_row _ _ 1 _ _ h, frozen_of_row _ _ 2 _ _ h, frozen_of_row _ _ 3 _ _ h, frozen_of_row _ _ 4 _ _ h, frozen_of_row _ _ 5 _ _ h, frozen_of_row _ _ 6 _ _ h, frozen_of_row _ _ 7 _ _ h, frozen_of_row _ _ 8 _ _ h⟩

set_option maxRecDepth 100000 in
theorem proot_code (w : World) : Calls Tryz.prog 25 #[] w fun e w' => e = .returned (.agg #[.int .i64 0, .int .i64 0]) ∧ Below w.heap.size w w' := by
  go_enter Tryz.func25, Tryz.ntmps25
  go_wp2_with fail
  exact bodyPost_ret (v := .agg #[.int .i64 0, .int .i64 0]) (by simp [results, Tryz.results25, go_sem]) rfl ⟨rfl, (Below.refl _ _).alloc (Nat.le_refl _) _⟩

theorem fromRoot_code (p : ByteArray) (w : World) : Calls Tryz.prog 28 #[.string p] w fun e w' => e = .returned (.bool (decide (p.data.toList.head? = some 47))) ∧ w = w' := by
  have h := Any.strings_HasPrefix (P := Tryz.prog) (ρ := Tryz.hasP_ren) Tryz.hasP p ⟨#[47]⟩ w
  rw [show Lib.hasPrefix p.data.toList (⟨#[47]⟩ : ByteArray).data.toList = decide (p.data.toList.head? = some 47) from isPre_one _] at h
  have H := Lib.hid h
  clear h
  go_enter Tryz.func28, Tryz.ntmps28
  go_wp2_with fail
  refine H.out.mono ?_
  rintro e w1 ⟨rfl, rfl⟩
  go_wp2_with fail
  go_ret
  exact ⟨rfl, rfl⟩

set_option maxRecDepth 100000 in
set_option maxHeartbeats 1600000 in
theorem here_code (H : GraphHave) (a : Addr) (S : Nat → Prop) (g : Gr) (s : Spt) (b : Nat) (A : Option Addr) (n c : Nat) (m : Int) (w : World) (h : H.rep w S a g) (hg : g.ok) (hs : s.fit g) (hb : w.heap[b]? = some (.cells (walkA a s A n c m) 75 (0, 0))) :
    Calls Tryz.prog 50 #[.pointer (some ⟨b, 0, none⟩)] w fun e w' => e = .returned (.tuple #[.agg (inoA (inoH g s)), .bool s.there]) ∧ Below w.heap.size w w' := by
  have hlt := heap_lt hb
  have hw0 : Held w [(w.heap.size, .cells (inoA noIno) 32)] (w.alloc (.cells (inoA noIno) 32)) := (Held.refl w).alloc (.cells (inoA noIno) 32) rfl
  have hbl : (w.alloc (.cells (inoA noIno) 32)).heap[b]? = some (.cells (walkA a s A n c m) 75 (0, 0)) := by rw [heap_alloc_old _ _ hlt]; exact hb
  by_cases ht : s.there = true
  · obtain ⟨hk1, hk2⟩ := get_of_kind (hs.is ht)
    have hx : inoH g s = inoG g s.ino := if_pos ht
    have GT : Hid (∀ W : World, Below w.heap.size w W → Calls Tryz.prog 12 #[.pointer (some a), .agg #[.int .i64 s.ino.1, .int .i64 s.ino.2]] W fun e w' => e = .returned (.tuple #[.agg (inoA (inoH g s)), .bool true]) ∧ Below W.heap.size W w') := Lib.hid fun W hW => by
      rw [hx, ← hk1]
      exact H.get a S g s.ino W (rep_below h hW) hg
    rw [ht]
    generalize inoH g s = x at GT ⊢
    clear hk1 hk2 hx h hg hs hb
    unfold inoA at GT
    go_enter Tryz.func50, Tryz.ntmps50
    go_upto_region 1 with fail
    change Code.wp _ _ _ _ (w.alloc (.cells (inoA noIno) 32))
    generalize w.alloc (.cells (inoA noIno) 32) = w0 at hw0 hbl ⊢
    obtain ⟨d0, d1, d2, d3, d4, d5, d6, d7, d8⟩ := walk_cells hbl
    rw [ht] at d6
    obtain ⟨i0, i1, i2, i3, i4, i5⟩ := ino_cells (g := w.heap.size) (hw0.at 0 rfl)
    obtain ⟨f0, f1, f2, f3, f4, f5⟩ := ino_free (g := w.heap.size) (hw0.at 0 rfl)
    have B0 := Lib.hid hw0.below
    go_wp2_with fail
    go_region_with (first | (go_at_call 12; (with_reducible refine (GT.out _ (by first | exact B0.out | exact B0.out.drew)).mono ?_); rintro e w1 ⟨rfl, hb1⟩; have H1 := (by first | exact hw0.step hb1 | exact hw0.drew.step hb1 : Held w [(w.heap.size, .cells (inoA noIno) 32)] w1); clear i0 i1 i2 i3 i4 i5 f0 f1 f2 f3 f4 f5; obtain ⟨i0, i1, i2, i3, i4, i5⟩ := ino_cells (g := w.heap.size) (H1.at 0 rfl); obtain ⟨f0, f1, f2, f3, f4, f5⟩ := ino_free (g := w.heap.size) (H1.at 0 rfl)))
    all_goals
      have P := Lib.hid (ino_put (g := w.heap.size) (H1.at 0 rfl) x)
      have HBB := Lib.hid (below_six H1.below (g := w.heap.size) (Nat.le_refl _) (.int .i64 x.id.1) (.int .i64 x.id.2) (.int .i64 x.kind) (.int .i64 x.links) (.int .i64 x.mode) (.string x.data))
      clear H1 hb1 i0 i1 i2 i3 i4 i5 f0 f1 f2 f3 f4 f5 d0 d1 d2 d3 d4 d5 d6 d7 d8 hbl hw0 GT B0
      obtain ⟨z0, z1, z2, z3, z4, z5⟩ := ino_cells P.out
      go_wp2_with fail
      exact bodyPost_ret (v := .tuple #[.agg (inoA x), .bool true]) (by simp [results, Tryz.results50, go_sem, inoA, z0, z1, z2, z3, z4, z5]) rfl ⟨rfl, HBB.out⟩
  · have ht : s.there = false := by simpa using ht
    have hx : inoH g s = noIno := if_neg (by rw [ht]; decide)
    rw [hx, ht]
    clear hx h hg hs hb
    go_enter Tryz.func50, Tryz.ntmps50
    go_upto_region 1 with fail
    change Code.wp _ _ _ _ (w.alloc (.cells (inoA noIno) 32))
    generalize w.alloc (.cells (inoA noIno) 32) = w0 at hw0 hbl ⊢
    obtain ⟨d0, d1, d2, d3, d4, d5, d6, d7, d8⟩ := walk_cells hbl
    rw [ht] at d6
    obtain ⟨i0, i1, i2, i3, i4, i5⟩ := ino_cells (g := w.heap.size) (hw0.at 0 rfl)
    obtain ⟨f0, f1, f2, f3, f4, f5⟩ := ino_free (g := w.heap.size) (hw0.at 0 rfl)
    have P := Lib.hid (ino_put (g := w.heap.size) (hw0.at 0 rfl) noIno)
    have HBB := Lib.hid (below_six hw0.below (g := w.heap.size) (Nat.le_refl _) (.int .i64 noIno.id.1) (.int .i64 noIno.id.2) (.int .i64 noIno.kind) (.int .i64 noIno.links) (.int .i64 noIno.mode) (.string noIno.data))
    obtain ⟨z0, z1, z2, z3, z4, z5⟩ := ino_cells P.out
    simp only [noIno] at i0 i1 i2 i3 i4 i5 z0 z1 z2 z3 z4 z5
    go_wp2_with fail
    exact bodyPost_ret (v := .tuple #[.agg (inoA noIno), .bool false]) (by simp [results, Tryz.results50, go_sem, inoA, noIno, z0, z1, z2, z3, z4, z5]) rfl ⟨rfl, HBB.out⟩

end Go.Proofs.YtbkijfhfjhpebaaGreatDoor

/-
  The landed path: two points; who goes the way, kept and written.
-/
namespace Go.Proofs.YtbkijfhfjhpebaaGreatDoor
open Go.Shelf Go.RowKit StampMath GraphMath OpMath

theorem six_free {w : World} {g : Nat} {a b c d e f : Value} {T : TypeId} (h : w.heap[g]? = some (.cells #[a, b, c, d, e, f] T (0, 0))) :
    w.frozen? ⟨g, 0, none⟩ = false ∧ w.frozen? ⟨g, 1, none⟩ = false ∧ w.frozen? ⟨g, 2, none⟩ = false ∧ w.frozen? ⟨g, 3, none⟩ = false ∧ w.frozen? ⟨g, 4, none⟩ = false ∧ w.frozen? ⟨g, 5, none⟩ = false :=
  ⟨frozen_of_row _ _ 0 _ _ h, frozen_of_row _ _ 1 _ _ h, frozen_of_row _ _ 2 _ _ h, frozen_of_row _ _ 3 _ _ h, frozen_of_row _ _ 4 _ _ h, frozen_of_row _ _ 5 _ _ h⟩

theorem six_put {W : World} {g : Nat} {a b c d e f : Value} {T : TypeId} (h : W.heap[g]? = some (.cells #[a, b, c, d, e, f] T (0, 0))) (a' b' c' d' e' f' : Value) :
    ((((((W.setCell ⟨g, 0, none⟩ a').setCell ⟨g, 1, none⟩ b').setCell ⟨g, 2, none⟩ c').setCell ⟨g, 3, none⟩ d').setCell ⟨g, 4, none⟩ e').setCell ⟨g, 5, none⟩ f').heap[g]? = some (.cells #[a', b', c', d', e', f'] T (0, 0)) := by
  rw [heap_setCell_same _ _ _ _ _ _ (heap_setCell_same _ _ _ _ _ _ (heap_setCell_same _ _ _ _ _ _ (heap_setCell_same _ _ _ _ _ _ (heap_setCell_same _ _ _ _ _ _ (heap_setCell_same _ _ _ _ _ _ h)))))]
  rfl

theorem two_put {W : World} {g : Nat} {a b : Value} {T : TypeId} (h : W.heap[g]? = some (.cells #[a, b] T (0, 0))) (a' b' : Value) :
    ((W.setCell ⟨g, 0, none⟩ a').setCell ⟨g, 1, none⟩ b').heap[g]? = some (.cells #[a', b'] T (0, 0)) := by
  rw [heap_setCell_same _ _ _ _ _ _ (heap_setCell_same _ _ _ _ _ _ h)]
  rfl

/-- A spot that was come to by points. -/
def upS (d : St) : Spt := ⟨(0, 0), ⟨#[]⟩, d, true⟩

set_option maxRecDepth 100000 in
set_option maxHeartbeats 1600000 in
theorem up_code (H : GraphHave) (a : Addr) (S : Nat → Prop) (g : Gr) (s : Spt) (b : Nat) (A : Option Addr) (n c : Nat) (m : Int) (d : St) (w : World) (h : H.rep w S a g) (hg : g.fine) (hd : kindG g d = 1) (hb : w.heap[b]? = some (.cells (walkA a s A n c m) 75 (0, 0))) :
    Calls Tryz.prog 74 #[.pointer (some ⟨b, 0, none⟩), .agg (stA d)] w fun e w' => e = .returned (.agg (sptA (upS ((parentG g d).getD (0, 0))))) ∧ Below w.heap.size w w' := by
  have hlt := heap_lt hb
  obtain ⟨u, hu⟩ : ∃ u, u = w.heap.size := ⟨_, rfl⟩
  have hw0 : Held w [(u + 1, .cells #[.int .i64 0, .int .i64 0, .string ⟨#[]⟩, .int .i64 0, .int .i64 0, .bool false] 38), (u, .cells (stA d) 24)] ((w.alloc (.cells (stA d) 24)).alloc (.cells #[.int .i64 0, .int .i64 0, .string ⟨#[]⟩, .int .i64 0, .int .i64 0, .bool false] 38)) :=
    ((Held.refl w).alloc (.cells (stA d) 24) hu.symm).alloc _ (by simp [hu])
  have hbl : ((w.alloc (.cells (stA d) 24)).alloc (.cells #[.int .i64 0, .int .i64 0, .string ⟨#[]⟩, .int .i64 0, .int .i64 0, .bool false] 38)).heap[b]? = some (.cells (walkA a s A n c m) 75 (0, 0)) := by rw [heap_alloc_old _ _ (by simp; omega), heap_alloc_old _ _ hlt]; exact hb
  have GT : Hid (∀ W : World, Below w.heap.size w W → Calls Tryz.prog 19 #[.pointer (some a), .agg #[.int .i64 d.1, .int .i64 d.2]] W fun e w' => e = .returned (.tuple #[.agg (stA ((parentG g d).getD (0, 0))), .bool (parentG g d).isSome]) ∧ Below W.heap.size W w') := Lib.hid fun W hW => H.parent a S g d W (rep_below h hW) hg.ok
  have HRl : Hid (∀ w0 y, Calls Tryz.prog 25 #[] (later w0 y) fun e w' => e = .returned (.agg #[.int .i64 0, .int .i64 0]) ∧ Below (later w0 y).heap.size (later w0 y) w') := fun _ _ => proot_code _
  obtain ⟨r, hr⟩ : ∃ r, r = (parentG g d).getD (0, 0) := ⟨_, rfl⟩
  obtain ⟨d1, d2⟩ := d
  by_cases h0 : ((d1, d2) : St) = (0, 0)
  · have hv : ∀ W : World, (Op.equalIn 10000 24 (.agg #[.int .i64 d1, .int .i64 d2]) (.agg #[.int .i64 0, .int .i64 0])).run Tryz.prog W = .ok true W := fun W => by rw [run_eqSt, decide_eq_true h0]
    rw [← hr]
    rw [h0, hg.ok.no_parent] at hr
    have hr0 : r = (0, 0) := hr
    subst hr0
    clear GT h hg hd hb hr h0
    unfold stA at hw0 hbl ⊢
    dsimp only at hw0 hbl ⊢
    go_enter Tryz.func74, Tryz.ntmps74
    go_upto_region 1 with fail
    change Code.wp _ _ _ _ ((w.alloc (.cells #[.int .i64 d1, .int .i64 d2] 24)).alloc (.cells #[.int .i64 0, .int .i64 0, .string ⟨#[]⟩, .int .i64 0, .int .i64 0, .bool false] 38))
    generalize (w.alloc (.cells #[.int .i64 d1, .int .i64 d2] 24)).alloc (.cells #[.int .i64 0, .int .i64 0, .string ⟨#[]⟩, .int .i64 0, .int .i64 0, .bool false] 38) = w0 at hw0 hbl ⊢
    rw [← hu]
    have hule : w.heap.size ≤ u + 1 := by omega
    clear hu hlt
    obtain ⟨s0, s1⟩ := two_cells (g := u) (hw0.at 1 rfl)
    have l0 := later_cell s0
    have l1 := later_cell s1
    have HW := Lib.hid hw0
    have HR := Lib.hid (HRl.out w0)
    clear s0 s1 hw0 HRl hbl
    refine wp_region_later (by kernel_rfl) (by kernel_rfl) ?_
    repeat (go_big_quiet_step (first | (with_reducible exact later_call (HR.out _))))
    refine wpQuiet_nil ?_
    intro _ hw'
    obtain ⟨y, rfl⟩ := hw'
    have H1 := Lib.hid (HW.out.step (later_below w0 y))
    generalize later w0 y = w1 at H1 ⊢
    clear l0 l1 HW HR hv
    go_wp2_with fail
    refine (proot_code _).mono ?_
    rintro e w2 ⟨rfl, hb2⟩
    have H2 := H1.out.step hb2
    obtain ⟨i0, i1, i2, i3, i4, i5⟩ := spt_cells (g := u + 1) (H2.at 0 rfl)
    obtain ⟨f0, f1, f2, f3, f4, f5⟩ := six_free (g := u + 1) (H2.at 0 rfl)
    have P := Lib.hid (six_put (g := u + 1) (H2.at 0 rfl) (.int .i64 0) (.int .i64 0) (.string ⟨#[]⟩) (.int .i64 0) (.int .i64 0) (.bool true))
    have HBB := Lib.hid (below_six H2.below (g := u + 1) hule (.int .i64 0) (.int .i64 0) (.string ⟨#[]⟩) (.int .i64 0) (.int .i64 0) (.bool true))
    obtain ⟨z0, z1, z2, z3, z4, z5⟩ := spt_cells P.out
    clear hb2 H1 H2
    go_wp2_with fail
    exact bodyPost_ret (v := .agg (sptA (upS (0, 0)))) (by simp [results, Tryz.results74, go_sem, sptA, upS, z0, z1, z2, z3, z4, z5]) rfl ⟨rfl, HBB.out⟩
  · have hv : ∀ W : World, (Op.equalIn 10000 24 (.agg #[.int .i64 d1, .int .i64 d2]) (.agg #[.int .i64 0, .int .i64 0])).run Tryz.prog W = .ok false W := fun W => by rw [run_eqSt, decide_eq_false h0]
    have hp := hg.parent_there hd h0
    rw [hp, ← hr] at GT
    rw [← hr]
    clear h hg hd hb hr h0 hp
    unfold stA at hw0 hbl GT ⊢
    dsimp only at hw0 hbl GT ⊢
    go_enter Tryz.func74, Tryz.ntmps74
    go_upto_region 1 with fail
    change Code.wp _ _ _ _ ((w.alloc (.cells #[.int .i64 d1, .int .i64 d2] 24)).alloc (.cells #[.int .i64 0, .int .i64 0, .string ⟨#[]⟩, .int .i64 0, .int .i64 0, .bool false] 38))
    generalize (w.alloc (.cells #[.int .i64 d1, .int .i64 d2] 24)).alloc (.cells #[.int .i64 0, .int .i64 0, .string ⟨#[]⟩, .int .i64 0, .int .i64 0, .bool false] 38) = w0 at hw0 hbl ⊢
    rw [← hu]
    have hule : w.heap.size ≤ u + 1 := by omega
    clear hu hlt
    obtain ⟨s0, s1⟩ := two_cells (g := u) (hw0.at 1 rfl)
    have l0 := later_cell s0
    have l1 := later_cell s1
    have HW := Lib.hid hw0
    have HR := Lib.hid (HRl.out w0)
    have BL := Lib.hid hbl
    clear s0 s1 hw0 HRl hbl
    refine wp_region_later (by kernel_rfl) (by kernel_rfl) ?_
    repeat (go_big_quiet_step (first | (with_reducible exact later_call (HR.out _))))
    refine wpQuiet_nil ?_
    intro _ hw'
    obtain ⟨y, rfl⟩ := hw'
    have H1 := HW.out.step (later_below w0 y)
    have hb1 := ((later_below w0 y).block _ (heap_lt BL.out)).trans BL.out
    generalize later w0 y = w1 at H1 hb1 ⊢
    clear l0 l1 HW HR hv BL
    obtain ⟨c0, c1, c2, c3, c4, c5, c6, c7, c8⟩ := walk_cells hb1
    obtain ⟨s0, s1⟩ := two_cells (g := u) (H1.at 1 rfl)
    have B1 := Lib.hid H1.below
    have hlu1 : u < w1.heap.size := heap_lt (H1.at 1 rfl)
    have hlb1 : b < w1.heap.size := heap_lt hb1
    clear c1 c2 c3 c4 c5 c6 c7 c8
    go_wp2_with fail
    go_region_with (first
      | (go_at_call 19; (with_reducible refine (GT.out _ (B1.out.alloc B1.out.size _).drew).mono ?_); rintro e w2 ⟨rfl, hb2⟩; have hN := (new_behind hb2).1; obtain ⟨n0, n1⟩ := two_cells hN; obtain ⟨m0, m1⟩ := two_free hN)
      | (go_at_call 19; (with_reducible refine (GT.out _ (by first | exact B1.out | exact B1.out.drew)).mono ?_); rintro e w2 ⟨rfl, hb2⟩))
    all_goals
      clear GT
      first
      | (have H3 := Lib.hid ((H1.drew.step hb2).alloc (.cells #[.int .i64 r.1, .int .i64 r.2] 24) rfl)
         generalize w2.alloc (.cells #[.int .i64 r.1, .int .i64 r.2] 24) = w3 at H3 ⊢
         obtain ⟨k0, k1⟩ := two_cells (H3.out.at 0 rfl)
         clear s0 s1 hb2 H1 B1 c0 hb1 hlu1 hlb1
         obtain ⟨i0, i1, i2, i3, i4, i5⟩ := spt_cells (g := u + 1) (H3.out.at 1 rfl)
         obtain ⟨f0, f1, f2, f3, f4, f5⟩ := six_free (g := u + 1) (H3.out.at 1 rfl)
         have P := Lib.hid (six_put (g := u + 1) (H3.out.at 1 rfl) (.int .i64 0) (.int .i64 0) (.string ⟨#[]⟩) (.int .i64 r.1) (.int .i64 r.2) (.bool true))
         have HBB := Lib.hid (below_six H3.out.below (g := u + 1) hule (.int .i64 0) (.int .i64 0) (.string ⟨#[]⟩) (.int .i64 r.1) (.int .i64 r.2) (.bool true))
         obtain ⟨z0, z1, z2, z3, z4, z5⟩ := spt_cells P.out
         clear H3
         go_wp2_with fail
         exact bodyPost_ret (v := .agg (sptA (upS r))) (by simp [results, Tryz.results74, go_sem, sptA, upS, z0, z1, z2, z3, z4, z5]) rfl ⟨rfl, HBB.out⟩)
      | (have HE := (H1.alloc (.cells #[.int .i64 0, .int .i64 0] 24) rfl).drew.step hb2
         have hL : ∀ p ∈ [(u + 1, Obj.cells #[.int .i64 0, .int .i64 0, .string ⟨#[]⟩, .int .i64 0, .int .i64 0, .bool false] 38), (u, .cells #[.int .i64 d1, .int .i64 d2] 24)], p.1 < w1.heap.size := by
           have h1 := heap_lt (H1.at 0 rfl)
           simp only [List.mem_cons, List.not_mem_nil, or_false]
           rintro p (rfl | rfl)
           · exact h1
           · exact hlu1
         have hV := two_put (HE.at 0 rfl) (.int .i64 r.1) (.int .i64 r.2)
         have H3 := Lib.hid ((HE.tail.set hL B1.out.size 0 (.int .i64 r.1)).set hL B1.out.size 1 (.int .i64 r.2))
         generalize (w2.setCell ⟨w1.heap.size, 0, none⟩ (.int .i64 r.1)).setCell ⟨w1.heap.size, 1, none⟩ (.int .i64 r.2) = w3 at H3 hV ⊢
         obtain ⟨k0, k1⟩ := two_cells hV
         clear s0 s1 hb2 H1 B1 c0 hb1 hlu1 hlb1 n0 n1 m0 m1 hN HE hL hV
         obtain ⟨i0, i1, i2, i3, i4, i5⟩ := spt_cells (g := u + 1) (H3.out.at 0 rfl)
         obtain ⟨f0, f1, f2, f3, f4, f5⟩ := six_free (g := u + 1) (H3.out.at 0 rfl)
         have P := Lib.hid (six_put (g := u + 1) (H3.out.at 0 rfl) (.int .i64 0) (.int .i64 0) (.string ⟨#[]⟩) (.int .i64 r.1) (.int .i64 r.2) (.bool true))
         have HBB := Lib.hid (below_six H3.out.below (g := u + 1) hule (.int .i64 0) (.int .i64 0) (.string ⟨#[]⟩) (.int .i64 r.1) (.int .i64 r.2) (.bool true))
         obtain ⟨z0, z1, z2, z3, z4, z5⟩ := spt_cells P.out
         clear H3
         go_wp2_with fail
         exact bodyPost_ret (v := .agg (sptA (upS r))) (by simp [results, Tryz.results74, go_sem, sptA, upS, z0, z1, z2, z3, z4, z5]) rfl ⟨rfl, HBB.out⟩)

end Go.Proofs.YtbkijfhfjhpebaaGreatDoor
