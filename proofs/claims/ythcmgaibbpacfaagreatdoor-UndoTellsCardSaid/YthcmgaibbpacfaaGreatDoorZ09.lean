/-
  Bytes in memory as strings: facts on the types []byte and string of this translation.
-/
import Derived.Test.YthcmgaibbpacfaaGreatDoorZ00
import Derived.Test.YthcmgaibbpacfaaGreatDoorRows
import Derived.Test.YthcmgaibbpacfaaGreatDoorZ06
import Derived.Deep.DeepCutAuto
import Derived.Lib.BufferWrite
import Derived.Deep.OwnRows
import Derived.ProofKit
import Derived.OpenShut
import Derived.Test.YthcmgaibbpacfaaGreatDoorZ08
import Derived.Test.YthcmgaibbpacfaaGreatDoorZ01
import Derived.Test.YthcmgaibbpacfaaGreatDoorZ07
import Derived.Deep.Slices
import Derived.Deep.Strs
import Derived.ChangeSame
import Derived.Lib.SmallJoins
import Derived.SevenTiedAt
import Derived.LaidMore
import Derived.Stop.Joined
namespace Go.Proofs.YthcmgaibbpacfaaGreatDoor
open Go.RowKit

theorem u8_info : (Tryz.prog.info? 5).map (fun i => (i.zero, i.size, i.bytes)) = some (some (.int .u8 0), 1, 1) := by kernel_rfl

/-- An owned row of bytes as a string. -/
theorem conv_own {w : World} {base n : Nat} {v : Value} {xs : List UInt8} (hown : w.ownsRow base 5 1 v n (xs.map bcell)) (hn : 0 < n) :
    (convert 131 9 v).run Tryz.prog w = .ok (.string ⟨xs.toArray⟩) w := by
  obtain ⟨g, cap, hv, _, _⟩ := hown.form hn
  have hl : xs.length = n := by have := hown.1; simpa using this
  subst hv
  subst hl
  have hc := hown.cells (g := g) rfl
  refine run_convert_bytes_back w _ _ _ _ cap xs Tryz.underlying131 Tryz.underlying5 Tryz.underlying9 (fun j hj => hc j _ ?_)
  rw [List.getElem?_map, List.getElem?_eq_getElem hj]
  rfl

/-- One byte in memory as a string. -/
theorem conv_one (b : Nat) (w : World) (x : UInt8) (hc : w.cell? ⟨b, 0, none⟩ = some (.int .u8 (x.toNat : Int))) :
    (convert 131 9 (.slice (some ⟨b, 0, none⟩) 1 1)).run Tryz.prog w = .ok (.string ⟨[x].toArray⟩) w := by
  refine run_convert_bytes_back w _ _ _ _ 1 [x] Tryz.underlying131 Tryz.underlying5 Tryz.underlying9 (fun j hj => ?_)
  have : j = 0 := by simp at hj; omega
  subst this
  simpa [Addr.add] using hc

end Go.Proofs.YthcmgaibbpacfaaGreatDoor

/-
  The landed code of package extent: its three calls are what the mathematics says.
-/
namespace Go.Proofs.YthcmgaibbpacfaaGreatDoor
open Go.RowKit ExtentMath PackMath

/-- A row of bytes in the block g; beneath B all is as it was. -/
def ByteRow (W : World) (B : Nat) (w : World) (g : Nat) (xs : List UInt8) : Prop :=
  W.heap[g]? = some (.cells (xs.map bcell).toArray 5 (0, 0)) ∧ Below B w W ∧ B ≤ g

theorem made_bytes (n : Nat) : madeCells #[.int .u8 0] n = ((List.replicate n (0 : UInt8)).map bcell).toArray := by
  apply Array.ext
  · simp [size_madeCells]
  · intro i h1 h2
    simp [madeCells, Nat.mod_one, bcell]

theorem wpList_make_bytes {w0 w : World} {ops : Array Oper} {rest : List Oper} {o : Oper} {a : Act} {Q : Exit → Act → World → Prop} {B : Nat}
    (hg : o.guard = none) (l c : Operand) (hop : o.op = Op.makeSlice 131 l c) (hb : Below B w0 w) (hB : B ≤ w.heap.size)
    (kl kc : IntKind) (n : Nat) (hl : a.eval l = .int kl (n : Int)) (hc : a.eval c = .int kc (n : Int)) (hn : n ≤ 100)
    (hK : ∀ w', Hid (ByteRow w' B w0 w.heap.size (List.replicate n 0)) → wpList Tryz.prog ops Q rest (a.put o.dst (.slice (some ⟨w.heap.size, 0, none⟩) n n)) w') :
    wpList Tryz.prog ops Q (o :: rest) a w := by
  obtain ⟨i0, hi0, hz0, hz1, hz2⟩ := info_parts u8_info
  refine wpList_make_row w hg l c _ hop 5 i0 (.int .u8 0) Tryz.underlying131 hi0 hz0 hz1 rfl kl kc n hl hc (by rw [hz2]; omega) (by omega) (hK _ ?_)
  refine ⟨?_, hb.alloc hB _, hB⟩
  rw [made_bytes]
  exact Go.Deep.blk_alloc_new _ _

/-- A string's bytes copied into a row: as many as there is room for. -/
theorem run_copy_str (w : World) (dT sT ty elem : TypeId) (g o dLen dCap : Nat) (s : ByteArray) (cur : Array Value) (t : TypeId)
    (hu : Tryz.prog.underlying dT = some (.slice elem)) (hs : (Tryz.prog.info? elem).map (·.size) = some 1) (hg : w.heap[g]? = some (.cells cur t (0, 0))) (hfit : o + min s.size dLen ≤ cur.size) :
    (Builtin.copy_ #[dT, sT] ty #[.slice (some ⟨g, o, none⟩) dLen dCap, .string s]).run Tryz.prog w =
      .ok (goInt ((min s.size dLen : Nat) : Int)) (w.setRow g (cur.toList.take o ++ (s.data.toList.take (min s.size dLen)).map bcell ++ cur.toList.drop (o + min s.size dLen)).toArray) := by
  have hlen : ((s.data.toList.take (min s.size dLen)).map bcell).length = min s.size dLen := by simp
  have hst := run_storeCells_at Tryz.prog g o t ((s.data.toList.take (min s.size dLen)).map bcell) 0 cur w hg (by rw [hlen]; simpa using hfit) (by
    intro v hv
    obtain ⟨b, _, rfl⟩ := List.mem_map.1 hv
    rfl)
  rw [hlen] at hst
  simp only [Nat.add_zero] at hst
  have htk : List.take (Nat.min s.size dLen) (List.map (fun b : UInt8 => Value.int IntKind.u8 (b.toNat : Int)) s.data.toList) = (s.data.toList.take (min s.size dLen)).map bcell := by
    rw [List.map_take]
    rfl
  cases hq : Tryz.prog.info? elem with
  | none => simp [hq] at hs
  | some i =>
    simp [Builtin.copy_, run_underlying hu, Builtin.lenOf, Builtin.firstCells, sizeOf, typeInfo, hq]
    rw [htk, hst]
    simp [Result.andThen]

/-- A row behind a copy. -/
def lay (xs : List UInt8) (o : Nat) (ys : List UInt8) : List UInt8 := xs.take o ++ ys ++ xs.drop (o + ys.length)

theorem lay_len {xs : List UInt8} {o : Nat} {ys : List UInt8} (h : o + ys.length ≤ xs.length) : (lay xs o ys).length = xs.length := by
  unfold lay
  simp
  omega

theorem bAt_lay {xs : List UInt8} {o : Nat} {ys : List UInt8} (h : o + ys.length ≤ xs.length) (i : Nat) : bAt (lay xs o ys) i = if o ≤ i ∧ i < o + ys.length then bAt ys (i - o) else bAt xs i := by
  unfold lay bAt
  simp only [List.getD_eq_getElem?_getD]
  by_cases h1 : i < o
  · rw [if_neg (by omega), List.append_assoc, List.getElem?_append_left (by simp; omega), List.getElem?_take, if_pos h1]
  · by_cases h2 : i < o + ys.length
    · rw [if_pos ⟨by omega, h2⟩, List.append_assoc, List.getElem?_append_right (by simp; omega), List.getElem?_append_left (by simp; omega)]
      congr 2
      simp
      omega
    · rw [if_neg (by omega), List.getElem?_append_right (by simp; omega), List.getElem?_drop]
      congr 2
      simp
      omega

set_option maxRecDepth 100000 in
theorem wpList_copy_str {w0 w : World} {ops : Array Oper} {rest : List Oper} {o : Oper} {a : Act} {Q : Exit → Act → World → Prop} {B : Nat} (hgd : o.guard = none) (d x : Operand)
    (ho : o.op = .call { callee := .builtin .copy, args := #[d, x], argTypes := #[131, 9] }) (g off dLen dCap : Nat) (xs : List UInt8) (hR : Hid (ByteRow w B w0 g xs)) (s : ByteArray)
    (hd : a.eval d = .slice (some ⟨g, off, none⟩) dLen dCap) (hx : a.eval x = .string s) (hfit : off + dLen ≤ xs.length)
    (h : ∀ w', Hid (ByteRow w' B w0 g (lay xs off (s.data.toList.take (min s.size dLen)))) → wpList Tryz.prog ops Q rest (a.put o.dst (goInt ((min s.size dLen : Nat) : Int))) w') : wpList Tryz.prog ops Q (o :: rest) a w := by
  obtain ⟨hg, hb, hB⟩ := hR.out
  obtain ⟨i0, hi0, hz0, hz1, hz2⟩ := info_parts u8_info
  have hm : (s.data.toList.take (min s.size dLen)).length = min s.size dLen := by
    rw [List.length_take]
    have e : s.data.toList.length = s.size := by simp
    omega
  refine wpList_plain hgd fun K hK => ?_
  have hrun := run_copy_str w 131 9 o.type 5 g off dLen dCap s _ _ Tryz.underlying131 (by rw [hi0]; simp [hz1]) hg (by rw [List.size_toArray, List.length_map]; omega)
  unfold Oper.wp
  simp only [execOp, ho, resolve, invoke, builtin, Sem.run_bind, Sem.run_pure, Result.andThen_ok, List.map_toArray, List.map_cons, List.map_nil, hd, hx, hrun]
  refine hK _ _ (h _ ⟨?_, ?_, hB⟩)
  · rw [setRow_heap w g _ _ _ _ hg]
    congr 3
    unfold lay
    rw [hm]
    simp
  · exact hb.trans ⟨rfl, rfl, rfl, by simp [World.setRow], fun k hk => setRow_other w g k _ (by omega)⟩

theorem conv_row {w0 w : World} {B g n cap : Nat} {xs : List UInt8} (hR : Hid (ByteRow w B w0 g xs)) (hn : xs.length = n) :
    (convert 131 9 (.slice (some ⟨g, 0, none⟩) n cap)).run Tryz.prog w = .ok (.string ⟨xs.toArray⟩) w := by
  subst hn
  obtain ⟨hg, _, _⟩ := hR.out
  refine run_convert_bytes_back w _ _ _ _ cap xs Tryz.underlying131 Tryz.underlying5 Tryz.underlying9 (fun j hj => ?_)
  have hh := cell_of_row w g j (xs.map bcell).toArray 5 (0, 0) hg
  rw [show (⟨g, 0, none⟩ : Addr).add j = ⟨g, j, none⟩ by unfold Addr.add; split <;> simp_all, hh]
  simp [bcell, List.getElem?_eq_getElem hj]

/-- The greater one of two numbers, as a variable. -/
theorem wpList_max_nat {w : World} {ops : Array Oper} {rest : List Oper} {o : Oper} {a : Act} {Q : Exit → Act → World → Prop} (hgd : o.guard = none) (x y : Operand) (ats : Array TypeId)
    (ho : o.op = .call { callee := .builtin .max, args := #[x, y], argTypes := ats }) (A C : Int) (n : Nat) (hx : a.eval x = .int .i64 A) (hy : a.eval y = .int .i64 C) (hn : max A C = (n : Int))
    (h : wpList Tryz.prog ops Q rest (a.put o.dst (.int .i64 (n : Int))) w) : wpList Tryz.prog ops Q (o :: rest) a w := by
  refine wpList_plain hgd fun K hK => ?_
  have hrun := run_max_int2 (P := Tryz.prog) (w := w) ats o.type .i64 .i64 A C
  rw [show (if C > A then C else A) = (n : Int) by rw [← hn]; split <;> omega] at hrun
  unfold Oper.wp
  simp only [execOp, ho, resolve, invoke, builtin, Sem.run_bind, Sem.run_pure, Result.andThen_ok, List.map_toArray, List.map_cons, List.map_nil, hx, hy, hrun]
  exact hK _ _ h

/-- What Trunc lays. -/
theorem lay_tL' (d : List UInt8) (n : Nat) : lay (List.replicate n 0) 0 (d.take (min d.length n)) = tL d n := by
  have hl : 0 + (d.take (min d.length n)).length ≤ (List.replicate n (0 : UInt8)).length := by simp; omega
  refine same_bytes (by rw [lay_len hl, tL_len]; simp) fun i hi => ?_
  rw [lay_len hl, List.length_replicate] at hi
  rw [bAt_lay hl, bAt_tL, if_pos hi]
  by_cases h : i < d.length
  · rw [if_pos ⟨Nat.zero_le _, by simp; omega⟩]
    unfold bAt
    simp only [List.getD_eq_getElem?_getD, Nat.sub_zero, List.getElem?_take]
    rw [if_pos (by omega)]
  · rw [if_neg (by simp; omega), bAt_ge (show d.length ≤ i by omega)]
    unfold bAt
    simp [List.getD_eq_getElem?_getD, hi]

/-- What Write lays. -/
theorem lay_wL' (d s : List UInt8) (o n : Nat) (hn : n = max d.length (o + s.length)) : lay (lay (List.replicate n 0) 0 (d.take (min d.length n))) o (s.take (min s.length (n - o))) = wL d s o := by
  rw [lay_tL', Nat.min_eq_left (by omega), List.take_length]
  have hl : o + s.length ≤ (tL d n).length := by rw [tL_len]; omega
  refine same_bytes (by rw [lay_len hl, tL_len, wL_len, hn]) fun i hi => ?_
  rw [lay_len hl, tL_len] at hi
  rw [bAt_lay hl, bAt_wL, bAt_tL, if_pos hi]
  rfl

theorem lay_tL (d : ByteArray) (n : Nat) : lay (List.replicate n 0) 0 (d.data.toList.take (min d.size n)) = tL d.data.toList n := by
  have h := lay_tL' d.data.toList n
  rwa [len_bytes] at h

theorem lay_wL (d s : ByteArray) (o n : Nat) (hn : n = max d.size (o + s.size)) : lay (lay (List.replicate n 0) 0 (d.data.toList.take (min d.size n))) o (s.data.toList.take (min s.size (n - o))) = wL d.data.toList s.data.toList o := by
  have h := lay_wL' d.data.toList s.data.toList o n (by rw [len_bytes, len_bytes]; exact hn)
  rwa [len_bytes, len_bytes] at h

theorem lay_room (d : ByteArray) (n : Nat) : (lay (List.replicate n 0) 0 (d.data.toList.take (min d.size n))).length = n := by rw [lay_tL, tL_len]

set_option maxRecDepth 100000 in
theorem trunc_code (d : ByteArray) (n : Int) (w : World) (hd : d.size ≤ 2000) (hn : IsI64 n) :
    Calls Tryz.prog 130 #[.string d, .int .i64 n] w fun e w' => e = .returned (.tuple #[.string (tR d n).1, .int .i64 (tR d n).2]) ∧ Below w.heap.size w w' := by
  by_cases h0 : n < 0
  · rw [show tR d n = (d, 1) by unfold tR; rw [if_pos h0]]
    go_enter Tryz.func130, Tryz.ntmps130
    go_wp2_with fail
    go_ret2
    exact ⟨rfl, Below.refl _ _⟩
  by_cases h1 : 64 < n
  · rw [show tR d n = (d, 11) by unfold tR; rw [if_neg h0, if_pos (Or.inl h1)]]
    go_enter Tryz.func130, Tryz.ntmps130
    go_wp2_with fail
    go_ret2
    exact ⟨rfl, Below.refl _ _⟩
  by_cases h2 : 64 < d.size
  · rw [show tR d n = (d, 11) by unfold tR; rw [if_neg h0, if_pos (Or.inr h2)]]
    go_enter Tryz.func130, Tryz.ntmps130
    go_wp2_with fail
    go_ret2
    exact ⟨rfl, Below.refl _ _⟩
  obtain ⟨m, rfl⟩ : ∃ m : Nat, n = (m : Int) := ⟨n.toNat, by omega⟩
  have hm64 : m ≤ 64 := by omega
  rw [show tR d (m : Int) = (⟨(tL d.data.toList m).toArray⟩, 0) by unfold tR; rw [if_neg h0, if_neg (by omega)]; rfl]
  clear h0 h1 hn
  have hl := Lib.hid (lay_tL d m)
  go_enter Tryz.func130, Tryz.ntmps130
  go_wp2_with (first
    | (at_make; refine wpList_make_bytes rfl _ _ rfl (Below.refl w.heap.size w) (Nat.le_refl _) _ _ m rfl rfl (by omega) ?_; intro w1 HR1)
    | (refine wpList_copy_str (by rfl) _ _ (by rfl) _ 0 m m _ HR1 d (by rfl) (by rfl) (by simp) ?_; intro w2 HR2; have hcv := conv_row (n := m) (cap := m) HR2 (by rw [hl.out]; exact tL_len _ _)))
  go_ret2
  exact ⟨by rw [← hl.out]; rfl, HR2.out.2.1⟩

set_option maxRecDepth 100000 in
theorem write_code (d : ByteArray) (off : Int) (s : ByteArray) (w : World) (hd : d.size ≤ 2000) (hs : s.size ≤ 2000) (ho : IsI64 off) :
    Calls Tryz.prog 129 #[.string d, .int .i64 off, .string s] w fun e w' => e = .returned (.tuple #[.string (wR d off s).1, .int .i64 (wR d off s).2]) ∧ Below w.heap.size w w' := by
  have hes : (s.toList == []) = decide (s.size = 0) := by
    rw [ByteArray.toList_eq]
    have e2 : s.data.toList.length = s.size := by simp
    cases hl : s.data.toList with
    | nil => rw [hl] at e2; rw [decide_eq_true (by simpa using e2.symm)]; rfl
    | cons a l => rw [hl, List.length_cons] at e2; rw [decide_eq_false (by omega)]; rfl
  by_cases h0 : off < 0
  · rw [show wR d off s = (d, 1) by unfold wR; rw [if_pos (Or.inl h0)]]
    go_enter Tryz.func129, Tryz.ntmps129
    go_wp2_with fail
    go_ret2
    exact ⟨rfl, Below.refl _ _⟩
  by_cases hs0 : s.size = 0
  · rw [show wR d off s = (d, 1) by unfold wR; rw [if_pos (Or.inr hs0)]]
    rw [decide_eq_true hs0] at hes
    go_enter Tryz.func129, Tryz.ntmps129
    go_wp2_with fail
    go_ret2
    exact ⟨rfl, Below.refl _ _⟩
  rw [decide_eq_false hs0] at hes
  have hw := Lib.hid (show wrap64 (64 - off) = 64 - off by unfold IsI64 at ho; unfold wrap64; omega)
  by_cases h1 : 64 - off < (s.size : Int)
  · rw [show wR d off s = (d, 11) by unfold wR; rw [if_neg (by omega), if_pos (by omega)]]
    have hq : decide (wrap64 (64 - off) < (s.size : Int)) = true := by rw [hw.out]; exact decide_eq_true h1
    go_enter Tryz.func129, Tryz.ntmps129
    go_wp2_with fail
    go_ret2
    exact ⟨rfl, Below.refl _ _⟩
  by_cases h2 : 64 < d.size
  · rw [show wR d off s = (d, 11) by unfold wR; rw [if_neg (by omega), if_pos (by omega)]]
    go_enter Tryz.func129, Tryz.ntmps129
    go_wp2_with fail
    go_ret2
    exact ⟨rfl, Below.refl _ _⟩
  obtain ⟨o, rfl⟩ : ∃ m : Nat, off = (m : Int) := ⟨off.toNat, by omega⟩
  obtain ⟨n, hn⟩ : ∃ n, n = max d.size (o + s.size) := ⟨_, rfl⟩
  have hn64 : n ≤ 64 := by omega
  rw [show wR d (o : Int) s = (⟨(wL d.data.toList s.data.toList o).toArray⟩, 0) by unfold wR; rw [if_neg (by omega), if_neg (by omega)]; rfl]
  have hq : decide (wrap64 (64 - (o : Int)) < (s.size : Int)) = false := by rw [hw.out]; exact decide_eq_false h1
  have hw2 := Lib.hid (show max (d.size : Int) ((o : Int) + (s.size : Int)) = (n : Int) by omega)
  have hl := Lib.hid (lay_wL d s o n hn)
  have hll := Lib.hid (show (wL d.data.toList s.data.toList o).length = n by rw [wL_len, len_bytes, len_bytes, hn])
  have hod : o ≤ n := by omega
  have hno : ¬ n = o := by omega
  have hcut := Lib.hid (show o + (n - o) ≤ n by omega)
  clear h0 ho hn
  go_enter Tryz.func129, Tryz.ntmps129
  go_wp2_with (first
    | (refine wpList_max_nat (by rfl) _ _ _ (by rfl) _ _ n (by rfl) (by rfl) hw2.out ?_)
    | (at_make; refine wpList_make_bytes rfl _ _ rfl (Below.refl w.heap.size w) (Nat.le_refl _) _ _ n rfl rfl (by omega) ?_; intro w1 HR1)
    | (refine wpList_copy_str (by rfl) _ _ (by rfl) _ 0 n n _ HR1 d (by rfl) (by rfl) (by simp) ?_; intro w2 HR2)
    | (refine wpList_copy_str (by rfl) _ _ (by rfl) _ o (n - o) (n - o) _ HR2 s (by rfl) (by rfl) (by rw [lay_room]; exact hcut.out) ?_; intro w3 HR3; have hcv := conv_row (n := n) (cap := n) HR3 (by rw [hl.out]; exact hll.out)))
  go_ret2
  exact ⟨by rw [← hl.out]; rfl, HR3.out.2.1⟩

theorem read_none (d : ByteArray) (off many : Int) (h : off < 0 ∨ many < 1 ∨ (d.size : Int) ≤ off) : rR d off many = ⟨#[]⟩ := by
  unfold rR
  by_cases h0 : off < 0
  · rw [if_pos h0]
  · rw [if_neg h0]
    have e : (rL d.data.toList off.toNat many.toNat).length = 0 := by rw [rL_len, len_bytes]; omega
    rw [List.length_eq_zero_iff.1 e]

theorem read_cut (d : ByteArray) (o m k : Nat) (hk : k = min m (d.size - o)) : rR d (o : Int) (m : Int) = (d.extract o d.size).extract 0 k := by
  unfold rR
  rw [if_neg (by omega), Int.toNat_natCast, Int.toNat_natCast]
  apply ByteArray.ext
  apply Array.ext'
  have hs : d.data.toList.length = d.size := by simp
  simp only [ByteArray.data_extract, Array.toList_extract, List.extract_eq_take_drop, List.drop_zero, Nat.sub_zero]
  unfold rL
  rw [List.take_of_length_le (l := d.data.toList.drop o) (i := d.size - o) (by simp), hk]
  apply List.ext_getElem?
  intro i
  rw [List.getElem?_take, List.getElem?_take]
  by_cases h1 : i < m
  · rw [if_pos h1]
    by_cases h2 : i < d.size - o
    · rw [if_pos (by omega)]
    · rw [if_neg (by omega), List.getElem?_eq_none (by rw [List.length_drop, hs]; omega)]
  · rw [if_neg h1, if_neg (by omega)]


theorem extentHave : ExtentHave where
  write := fun d off s w hd hs ho => write_code d off s w hd hs ho
  trunc := fun d n w hd hn => trunc_code d n w hd hn

end Go.Proofs.YthcmgaibbpacfaaGreatDoor

/-
  What the statements of layer 11 need of the landed code: all contracts in one.
-/
namespace Go.Proofs.YthcmgaibbpacfaaGreatDoor
open Go.RowKit StampMath GraphMath OpMath PackMath ExtentMath

theorem applyHave : ApplyHave graphHave where
  why := fun a S g o w _ h hf ho => why_code graphHave a S g o w h hf.ok ho
  does := fun a S g o w _ h _ hf ho => (do_core graphHave extentHave (bare w) w _ a g o (bare_gx h hf.ok) hf ho).mono fun _ _ ⟨he, k⟩ => by
    obtain ⟨S', q⟩ := gx_bare k
    exact ⟨S', he, q⟩
  nilDo := fun o w _ _ => do_nil o w
  may := fun o w _ ho => opMay_any o w ho.ok ho.name ho.new ho.data
  makes := fun o w _ _ => makes_any o w

end Go.Proofs.YthcmgaibbpacfaaGreatDoor

/-
  What the statements of layer 12 need of the landed code: all contracts in one.
-/
namespace Go.Proofs.YthcmgaibbpacfaaGreatDoor
open Go.RowKit StampMath GraphMath OpMath PackMath

theorem name_len {nm : ByteArray} (h : nameB nm = true) : nm.size ≤ maxLen := by
  unfold nameB at h
  simp only [Bool.and_eq_true, decide_eq_true_iff] at h
  unfold maxLen
  omega

theorem undoHave : UndoHave graphHave where
  diff := fun a b S T g h w ha hb hg hh => diff_code graphHave a b S T g h w ha hb hg hh
  does := fun a S g o w _ h hS hf ho => undo_do graphHave applyHave a S g o w h hS hf ho
  back := fun a S T g o v w h hg _ hr hT => by
    have hf := hg.does o
    have h1 : (doR g o).lost.length ≤ 1000 := Nat.le_trans (List.length_filter_le _ _) (Nat.le_trans hg.ok.entsFew (by decide))
    have h2 : (doR g o).made.length ≤ 1000 := Nat.le_trans (List.length_filter_le _ _) (Nat.le_trans hf.ok.entsFew (by decide))
    have h3 : (doR g o).was.length ≤ 1000 := by
      refine Nat.le_trans (List.length_filter_le _ _) ?_
      unfold inodesG
      rw [List.length_map]
      exact Nat.le_trans hg.ok.few (by decide)
    have h4 : (doR g o).new.length ≤ 1000 := by
      refine Nat.le_trans (List.length_filter_le _ _) ?_
      rw [List.length_map]
      exact Nat.le_trans hf.ok.few (by decide)
    refine (back_core graphHave (bare w) w (fun i => i < w.heap.size ∧ ¬ S i) T a (doA g o).1 (doR g o) v (bare_gx h hf.ok) hr (fun i hi hl => ⟨hl, hT i hi⟩) h1 h2 h3 h4
      (fun e he => name_len (hg.names e (List.mem_filter.1 he).1)) (fun e he => name_len (hf.names e (List.mem_filter.1 he).1))).mono ?_
    rintro e w' ⟨he, k⟩
    rw [back_does hg o] at k
    obtain ⟨S', q⟩ := gx_bare k
    exact ⟨S', he, q⟩

end Go.Proofs.YthcmgaibbpacfaaGreatDoor

/-
  Arguments that are stamps or entries, opened.
-/
namespace Go.Proofs.YthcmgaibbpacfaaGreatDoor
open Go.ChangeShapes Go.WideShapes Go.RowKit StampMath GraphMath

variable {H : Type} {enc : TypeId × Value → H}

theorem st_trod {w : World} {n : Nat} {a b : Value} {y : DataW H × List MemPlace} (h : DataW.trod enc Tryz.prog w 0 (fun _ => true) true n 24 [a, b] = some y) : ∃ s : St, a = .int .i64 s.1 ∧ b = .int .i64 s.2 := by
  have h1 : Tryz.prog.cellsOf 3 = 1 := by kernel_rfl
  have h2 : Tryz.prog.cellsOf 2 = 1 := by kernel_rfl
  obtain ⟨xs, m, _, _, _, hlen, hg⟩ := DataW.trod_struct Tryz.underlying24 h
  match xs, hlen with
  | [y0, y1], _ =>
    have g0 : DataW.trod enc Tryz.prog w 0 (fun _ => true) true m 2 (([a, b].drop 0).take (Tryz.prog.cellsOf 2)) = some y0 := hg 0 _ rfl
    have g1 : DataW.trod enc Tryz.prog w 0 (fun _ => true) true m 3 (([a, b].drop 1).take (Tryz.prog.cellsOf 3)) = some y1 := hg 1 _ rfl
    rw [h2] at g0
    rw [h1] at g1
    obtain ⟨t, e0, _, _⟩ := DataW.trod_int Tryz.underlying2 g0
    obtain ⟨r, e1, _, _⟩ := DataW.trod_int Tryz.underlying3 g1
    simp at e0 e1
    exact ⟨(t, r), e0, e1⟩

theorem ent_trod {w : World} {n : Nat} {c0 c1 c2 c3 c4 : Value} {y : DataW H × List MemPlace} (h : DataW.trod enc Tryz.prog w 0 (fun _ => true) true n 66 [c0, c1, c2, c3, c4] = some y) :
    ∃ e : Ent, #[c0, c1, c2, c3, c4] = entA e ∧ e.name.size ≤ maxLen := by
  have hC2 : Tryz.prog.cellsOf 24 = 2 := by kernel_rfl
  have hC3 : Tryz.prog.cellsOf 9 = 1 := by kernel_rfl
  obtain ⟨xs, m, _, _, _, hlen, hg⟩ := DataW.trod_struct Tryz.underlying66 h
  match xs, hlen with
  | [y0, y1, y2], _ =>
    have g0 : DataW.trod enc Tryz.prog w 0 (fun _ => true) true m 24 (([c0, c1, c2, c3, c4].drop 0).take (Tryz.prog.cellsOf 24)) = some y0 := hg 0 _ rfl
    have g1 : DataW.trod enc Tryz.prog w 0 (fun _ => true) true m 9 (([c0, c1, c2, c3, c4].drop 2).take (Tryz.prog.cellsOf 9)) = some y1 := hg 1 _ rfl
    have g2 : DataW.trod enc Tryz.prog w 0 (fun _ => true) true m 24 (([c0, c1, c2, c3, c4].drop 3).take (Tryz.prog.cellsOf 24)) = some y2 := hg 2 _ rfl
    rw [hC2] at g0 g2
    rw [hC3] at g1
    obtain ⟨s, rfl, rfl⟩ := st_trod (a := c0) (b := c1) g0
    obtain ⟨nm, e2, _, w2⟩ := DataW.trod_string Tryz.underlying9 g1
    obtain ⟨t, rfl, rfl⟩ := st_trod (a := c3) (b := c4) g2
    simp at e2
    subst e2
    exact ⟨⟨s, nm, t⟩, rfl, w2⟩

set_option maxRecDepth 100000 in
theorem open_st {w : World} {v : Value} {d : DataW H} {p : List MemPlace} {r : Reach} {b0 : Nat} (hv : Value.okWide Tryz.prog w r b0 24 v) (h : DataW.Trod enc Tryz.prog w 0 (fun _ => true) true 24 v d p) :
    ∃ s : St, v = .agg (stA s) := by
  have hC : Tryz.prog.cellsOf 24 = 2 := by kernel_rfl
  obtain ⟨cs, rfl, hsz⟩ := okWide_struct Tryz.underlying24 hv
  obtain ⟨l⟩ := cs
  match l, hsz.trans hC with
  | [c0, c1], _ =>
    obtain ⟨fuel, hf⟩ := h
    obtain ⟨s, rfl, rfl⟩ := st_trod (a := c0) (b := c1) hf
    exact ⟨s, rfl⟩

set_option maxRecDepth 100000 in
theorem open_ent {w : World} {v : Value} {d : DataW H} {p : List MemPlace} {r : Reach} {b0 : Nat} (hv : Value.okWide Tryz.prog w r b0 66 v) (h : DataW.Trod enc Tryz.prog w 0 (fun _ => true) true 66 v d p) :
    ∃ e : Ent, v = .agg (entA e) ∧ e.name.size ≤ maxLen := by
  have hC : Tryz.prog.cellsOf 66 = 5 := by kernel_rfl
  obtain ⟨cs, rfl, hsz⟩ := okWide_struct Tryz.underlying66 hv
  obtain ⟨l⟩ := cs
  match l, hsz.trans hC with
  | [c0, c1, c2, c3, c4], _ =>
    obtain ⟨fuel, hf⟩ := h
    obtain ⟨e, he, hs⟩ := ent_trod (c0 := c0) (c1 := c1) (c2 := c2) (c3 := c3) (c4 := c4) hf
    exact ⟨e, by rw [← he], hs⟩

theorem cell_spot {w : World} {g o : Nat} {s : Option Nat} {v : Value} (h : w.cell? ⟨g, o, s⟩ = some v) : s = none := by
  unfold World.cell? at h
  cases hb : w.heap[g]? with
  | none => simp [hb] at h
  | some x =>
    cases x <;> simp [hb] at h
    exact h.1

end Go.Proofs.YthcmgaibbpacfaaGreatDoor

/-
  An argument that is a slice of structs of k cells each, opened.
-/
namespace Go.Proofs.YthcmgaibbpacfaaGreatDoor
open Go.ChangeShapes Go.WideShapes Go.RowKit StampMath GraphMath

variable {H : Type} {enc : TypeId × Value → H}

set_option maxRecDepth 100000 in
/-- A slice whose elements are of k cells each. -/
theorem open_tab {α : Type} (encA : α → Array Value) (Good : α → Prop) (dflt : α) {k : Nat} (hk : 0 < k) (hsz : ∀ x, (encA x).size = k) {T E : TypeId} (hT : Tryz.prog.underlying T = some (.slice E)) (hC : Tryz.prog.cellsOf E = k) {w : World}
    (one : ∀ {n : Nat} {cs : List Value} {y : DataW H × List MemPlace}, cs.length = k → DataW.trod enc Tryz.prog w 0 (fun _ => true) true n E cs = some y → ∃ x, cs = (encA x).toList ∧ Good x)
    {v : Value} {d : DataW H} {p : List MemPlace} {r : Reach} {b0 : Nat} (hv : Value.okWide Tryz.prog w r b0 T v) (h : DataW.Trod enc Tryz.prog w 0 (fun _ => true) true T v d p) :
    ∃ (A : Option Addr) (n c : Nat) (xs : List α), v = .slice A n c ∧ n ≤ c ∧ c ≤ maxLen ∧ (∀ x ∈ xs, Good x) ∧ TabIn k w w.heap.size A n (xs.map encA) ∧ (A = Option.none → c = 0) := by
  obtain ⟨A, n, c, rfl⟩ := okWide_slice hT hv
  obtain ⟨fuel, hf⟩ := h
  rcases Deep.open_slice hT hf with ⟨hcs, _⟩ | ⟨a, len, cap, m, kk, D, Pl, hcs, _, hlc, hcm, hm, hx, hi⟩
  · simp only [Value.cells, List.cons.injEq, and_true, Value.slice.injEq] at hcs
    obtain ⟨rfl, rfl, rfl⟩ := hcs
    exact ⟨Option.none, 0, 0, [], rfl, by omega, by decide, (fun x hx => by cases hx), TabIn.nil k w _ _, fun _ => rfl⟩
  · simp only [Value.cells, List.cons.injEq, and_true, Value.slice.injEq] at hcs
    obtain ⟨rfl, rfl, rfl⟩ := hcs
    have hmc : m = c := by rw [hm]; rfl
    subst hmc
    rw [hC] at hi
    have each : ∀ i, i < n → ∃ x : α, (∀ j v, (encA x)[j]? = some v → w.cell? ((a.add (i * k)).add j) = some v) ∧ Good x := by
      intro i hin
      obtain ⟨cs, hc, ht⟩ := hi i (by omega)
      obtain ⟨_, hl, hat⟩ := World.cells?_some hc
      obtain ⟨x, he, hs⟩ := one hl ht
      refine ⟨x, fun j v hj => ?_, hs⟩
      have hjk : j < k := by rw [← hsz x]; exact (Array.getElem?_eq_some_iff.1 hj).1
      rw [hat j hjk, he]
      simpa using hj
    obtain ⟨g, o, sp⟩ := a
    have hsp : 0 < n → sp = Option.none := fun hn => by
      obtain ⟨x, hc, _⟩ := each 0 hn
      have h0 : 0 < (encA x).size := by rw [hsz]; exact hk
      exact cell_spot (by simpa [Addr.add] using hc 0 _ (Array.getElem?_eq_getElem h0))
    refine ⟨some ⟨g, o, sp⟩, n, m, (List.range n).map (fun i => if h : i < n then Classical.choose (each i h) else dflt), rfl, hlc, hcm, fun x hx => ?_, ⟨by simp, fun hn => ?_⟩, fun h => by cases h⟩
    · obtain ⟨i, hi1, rfl⟩ := List.mem_map.1 hx
      have hin := List.mem_range.1 hi1
      rw [dif_pos hin]
      exact (Classical.choose_spec (each i hin)).2
    · have hs := hsp hn
      subst hs
      obtain ⟨x0, c0, _⟩ := each 0 hn
      have h0 : 0 < (encA x0).size := by rw [hsz]; exact hk
      refine ⟨g, o, rfl, by have := World.block_lt_of_cell? _ _ (c0 0 _ (Array.getElem?_eq_getElem h0)); simpa [Addr.add] using this, fun j hj i v hv => ?_⟩
      have hjn : j < n := by simpa using hj
      have he : (((List.range n).map (fun i => if h : i < n then Classical.choose (each i h) else dflt)).map encA)[j]'hj = encA (Classical.choose (each j hjn)) := by
        rw [List.getElem_map, List.getElem_map, List.getElem_range, dif_pos hjn]
      rw [he] at hv
      have q := (Classical.choose_spec (each j hjn)).1 i v hv
      rw [tab_add, tab_add] at q
      exact q

end Go.Proofs.YthcmgaibbpacfaaGreatDoor

/-
  An argument that is an operation, opened.
-/
namespace Go.Proofs.YthcmgaibbpacfaaGreatDoor
open Go.ChangeShapes Go.WideShapes Go.RowKit OpMath PackMath

variable {H : Type} {enc : TypeId × Value → H}

theorem stamp_trod {w : World} {n : Nat} {a b : Value} {y : DataW H × List MemPlace} (h : DataW.trod enc Tryz.prog w 0 (fun _ => true) true n 24 [a, b] = some y) :
    ∃ t r : Int, a = .int .i64 t ∧ b = .int .i64 r ∧ IsI64 t ∧ IsI64 r := by
  have h1 : Tryz.prog.cellsOf 3 = 1 := by kernel_rfl
  have h2 : Tryz.prog.cellsOf 2 = 1 := by kernel_rfl
  obtain ⟨xs, m, _, _, _, hlen, hg⟩ := DataW.trod_struct Tryz.underlying24 h
  match xs, hlen with
  | [y0, y1], _ =>
    have g0 : DataW.trod enc Tryz.prog w 0 (fun _ => true) true m 2 (([a, b].drop 0).take (Tryz.prog.cellsOf 2)) = some y0 := hg 0 _ rfl
    have g1 : DataW.trod enc Tryz.prog w 0 (fun _ => true) true m 3 (([a, b].drop 1).take (Tryz.prog.cellsOf 3)) = some y1 := hg 1 _ rfl
    rw [h2] at g0
    rw [h1] at g1
    obtain ⟨t, e0, _, w0⟩ := DataW.trod_int Tryz.underlying2 g0
    obtain ⟨r, e1, _, w1⟩ := DataW.trod_int Tryz.underlying3 g1
    simp at e0 e1
    exact ⟨t, r, e0, e1, bounds_i64 w0, bounds_i64 w1⟩

set_option maxRecDepth 100000 in
theorem op_trod {w : World} {n : Nat} {c0 c1 c2 c3 c4 c5 c6 c7 c8 c9 c10 c11 c12 : Value} {y : DataW H × List MemPlace} (h : DataW.trod enc Tryz.prog w 0 (fun _ => true) true n 26 [c0, c1, c2, c3, c4, c5, c6, c7, c8, c9, c10, c11, c12] = some y) :
    ∃ o : Opn, Value.agg #[c0, c1, c2, c3, c4, c5, c6, c7, c8, c9, c10, c11, c12] = .agg (opA o) ∧ Ok64 o ∧ o.name.size ≤ maxLen ∧ o.new.size ≤ maxLen ∧ o.data.size ≤ maxLen := by
  have hC1 : Tryz.prog.cellsOf 3 = 1 := by kernel_rfl
  have hC2 : Tryz.prog.cellsOf 24 = 2 := by kernel_rfl
  have hC3 : Tryz.prog.cellsOf 9 = 1 := by kernel_rfl
  obtain ⟨xs, n, _, _, _, hlen, hg⟩ := DataW.trod_struct Tryz.underlying26 h
  match xs, hlen with
  | [y0, y1, y2, y3, y4, y5, y6, y7, y8], _ =>
    have g0 : DataW.trod enc Tryz.prog w 0 (fun _ => true) true n 24 (([c0, c1, c2, c3, c4, c5, c6, c7, c8, c9, c10, c11, c12].drop 0).take (Tryz.prog.cellsOf 24)) = some y0 := hg 0 _ rfl
    have g1 : DataW.trod enc Tryz.prog w 0 (fun _ => true) true n 3 (([c0, c1, c2, c3, c4, c5, c6, c7, c8, c9, c10, c11, c12].drop 2).take (Tryz.prog.cellsOf 3)) = some y1 := hg 1 _ rfl
    have g2 : DataW.trod enc Tryz.prog w 0 (fun _ => true) true n 24 (([c0, c1, c2, c3, c4, c5, c6, c7, c8, c9, c10, c11, c12].drop 3).take (Tryz.prog.cellsOf 24)) = some y2 := hg 2 _ rfl
    have g3 : DataW.trod enc Tryz.prog w 0 (fun _ => true) true n 24 (([c0, c1, c2, c3, c4, c5, c6, c7, c8, c9, c10, c11, c12].drop 5).take (Tryz.prog.cellsOf 24)) = some y3 := hg 3 _ rfl
    have g4 : DataW.trod enc Tryz.prog w 0 (fun _ => true) true n 24 (([c0, c1, c2, c3, c4, c5, c6, c7, c8, c9, c10, c11, c12].drop 7).take (Tryz.prog.cellsOf 24)) = some y4 := hg 4 _ rfl
    have g5 : DataW.trod enc Tryz.prog w 0 (fun _ => true) true n 9 (([c0, c1, c2, c3, c4, c5, c6, c7, c8, c9, c10, c11, c12].drop 9).take (Tryz.prog.cellsOf 9)) = some y5 := hg 5 _ rfl
    have g6 : DataW.trod enc Tryz.prog w 0 (fun _ => true) true n 9 (([c0, c1, c2, c3, c4, c5, c6, c7, c8, c9, c10, c11, c12].drop 10).take (Tryz.prog.cellsOf 9)) = some y6 := hg 6 _ rfl
    have g7 : DataW.trod enc Tryz.prog w 0 (fun _ => true) true n 3 (([c0, c1, c2, c3, c4, c5, c6, c7, c8, c9, c10, c11, c12].drop 11).take (Tryz.prog.cellsOf 3)) = some y7 := hg 7 _ rfl
    have g8 : DataW.trod enc Tryz.prog w 0 (fun _ => true) true n 9 (([c0, c1, c2, c3, c4, c5, c6, c7, c8, c9, c10, c11, c12].drop 12).take (Tryz.prog.cellsOf 9)) = some y8 := hg 8 _ rfl
    rw [hC2] at g0 g2 g3 g4
    rw [hC1] at g1 g7
    rw [hC3] at g5 g6 g8
    obtain ⟨st, sr, rfl, rfl, i0, i1⟩ := stamp_trod (a := c0) (b := c1) g0
    obtain ⟨k, e2, _, w2⟩ := DataW.trod_int Tryz.underlying3 g1
    obtain ⟨pt, pr, rfl, rfl, i3, i4⟩ := stamp_trod (a := c3) (b := c4) g2
    obtain ⟨it, ir, rfl, rfl, i5, i6⟩ := stamp_trod (a := c5) (b := c6) g3
    obtain ⟨tt, tr, rfl, rfl, i7, i8⟩ := stamp_trod (a := c7) (b := c8) g4
    obtain ⟨a, e9, _, w9⟩ := DataW.trod_string Tryz.underlying9 g5
    obtain ⟨b, e10, _, w10⟩ := DataW.trod_string Tryz.underlying9 g6
    obtain ⟨f, e11, _, w11⟩ := DataW.trod_int Tryz.underlying3 g7
    obtain ⟨c, e12, _, w12⟩ := DataW.trod_string Tryz.underlying9 g8
    simp at e2 e9 e10 e11 e12
    subst e2 e9 e10 e11 e12
    exact ⟨⟨st, sr, k, pt, pr, it, ir, tt, tr, a, b, f, c⟩, rfl, ⟨i0, i1, bounds_i64 w2, i3, i4, i5, i6, i7, i8, bounds_i64 w11⟩, w9, w10, w12⟩

set_option maxRecDepth 100000 in
theorem open_op {w : World} {v : Value} {d : DataW H} {p : List MemPlace} {r : Reach} {b0 : Nat} (hv : Value.okWide Tryz.prog w r b0 26 v) (h : DataW.Trod enc Tryz.prog w 0 (fun _ => true) true 26 v d p) :
    ∃ o : Opn, v = .agg (opA o) ∧ Ok64 o ∧ o.name.size ≤ maxLen ∧ o.new.size ≤ maxLen ∧ o.data.size ≤ maxLen := by
  have hC : Tryz.prog.cellsOf 26 = 13 := by kernel_rfl
  obtain ⟨cs, rfl, hsz⟩ := okWide_struct Tryz.underlying26 hv
  obtain ⟨l⟩ := cs
  match l, hsz.trans hC with
  | [c0, c1, c2, c3, c4, c5, c6, c7, c8, c9, c10, c11, c12], _ =>
    obtain ⟨fuel, hf⟩ := h
    exact op_trod (c0 := c0) (c1 := c1) (c2 := c2) (c3 := c3) (c4 := c4) (c5 := c5) (c6 := c6) (c7 := c7) (c8 := c8) (c9 := c9) (c10 := c10) (c11 := c11) (c12 := c12) hf

end Go.Proofs.YthcmgaibbpacfaaGreatDoor

/-
  Arguments of layer 11's statements, opened: a slice of operations.
-/
namespace Go.Proofs.YthcmgaibbpacfaaGreatDoor
open Go.ChangeShapes Go.WideShapes Go.RowKit StampMath GraphMath OpMath PackMath

variable {H : Type} {enc : TypeId × Value → H}

set_option maxRecDepth 100000 in
theorem open_ops {w : World} {v : Value} {d : DataW H} {p : List MemPlace} {r : Reach} {b0 : Nat} (hv : Value.okWide Tryz.prog w r b0 22 v) (h : DataW.Trod enc Tryz.prog w 0 (fun _ => true) true 22 v d p) :
    ∃ (A : Option Addr) (n c : Nat) (l : List Opn), v = .slice A n c ∧ n ≤ c ∧ c ≤ maxLen ∧ (∀ x ∈ l, OpFit x) ∧ OpsIn w w.heap.size A n l := by
  obtain ⟨A, n, c, l, h1, h2, h3, h4, h5, _⟩ := open_tab opA OpFit ⟨0, 0, 0, 0, 0, 0, 0, 0, 0, ⟨#[]⟩, ⟨#[]⟩, 0, ⟨#[]⟩⟩ (k := 13) (by omega) (fun _ => rfl) Tryz.underlying22 (by kernel_rfl) (fun {n cs y} hl ht => by
    match cs, hl with
    | [c0, c1, c2, c3, c4, c5, c6, c7, c8, c9, c10, c11, c12], _ =>
      obtain ⟨o, he, q1, q2, q3, q4⟩ := op_trod (c0 := c0) (c1 := c1) (c2 := c2) (c3 := c3) (c4 := c4) (c5 := c5) (c6 := c6) (c7 := c7) (c8 := c8) (c9 := c9) (c10 := c10) (c11 := c11) (c12 := c12) ht
      simp only [Value.agg.injEq] at he
      exact ⟨o, by rw [← he], ⟨q1, q2, q3, q4⟩⟩) hv h
  exact ⟨A, n, c, l, h1, h2, h3, h4, h5⟩

end Go.Proofs.YthcmgaibbpacfaaGreatDoor

/-
  From the rows' condition on the table of fields to its cells; a start that meets the condition.
-/
namespace Go.Proofs.YthcmgaibbpacfaaGreatDoor
open Go.ChangeShapes Go.WideShapes Go.ChangeAt Go.RowKit

theorem tab_global : Tryz.prog.globalNamed "thimble/op.fields" = some 0 := by kernel_rfl
theorem tab_type : (Tryz.prog.globals[0]?).map (·.type) = some 203 := by kernel_rfl

/-- A start in which the table lies. -/
theorem tab_met (os : Os) (args : Array Value) : laidMetH Tryz.prog [("thimble/op.fields", Rows.laid_thimble_op_fields)] ((World.doorLaid Tryz.prog 400 os).forCall (fun _ _ => 0) ⟨#[], args, []⟩).memory :=
  laidMetH_of_parts3 (fuel := 8) (laidMet_of_run' 8 (by kernel_rfl) (by kernel_rfl)) (by kernel_rfl) (by kernel_rfl)

theorem tab_of_laid {W : World} (h : laidMetH Tryz.prog [("thimble/op.fields", Rows.laid_thimble_op_fields)] W) : Tab W := by
  rw [MakeChecks.laidMetH_plain _ _ _ (by kernel_rfl)] at h
  obtain ⟨ps, ⟨g0, t0, cs0, f0, p0, q0, hg0, ht0, hv0, hd0, _⟩, _, _⟩ := h
  obtain rfl := Option.some.inj (tab_global.symm.trans hg0)
  obtain rfl := Option.some.inj (tab_type.symm.trans ht0)
  obtain ⟨xs, m, rfl, hx, hlen, hn, hel⟩ := DataW.trod_array Tryz.underlying203 hd0
  have c1 : Tryz.prog.cellsOf 3 = 1 := by kernel_rfl
  have hm : xs.map (·.1) = tabL.map fun n => DataW.lit (.int .i64 n) := by
    have h2 := (Prod.mk.inj hx).1
    exact (DataW.agg.inj h2).symm
  refine ⟨Lib.hid fun i x hi => ?_⟩
  have hl : i < 11 := (List.getElem?_eq_some_iff.1 hi).1
  have hE := hel i hl
  rw [c1, Nat.mul_one] at hE
  have hy : (xs.map (·.1))[i]? = some (DataW.lit (.int .i64 x)) := by rw [hm, List.getElem?_map, hi]; rfl
  rw [List.getElem?_map] at hy
  cases hxi : xs[i]? with
  | none => rw [hxi] at hy; cases hy
  | some y =>
    rw [hxi] at hE hy
    simp only [Option.map_some, Option.some.injEq] at hy
    obtain ⟨k, e1, e2, _⟩ := DataW.trod_int Tryz.underlying3 hE
    rw [e2] at hy
    simp only [DataW.lit.injEq, Lit.int.injEq, true_and] at hy
    subst hy
    have hc := World.var?_cell hg0 hv0 i
    rw [hc, ← Array.getElem?_toList]
    have h3 : (cs0.toList.drop i).head? = some (.int .i64 k) := by
      cases hdr : cs0.toList.drop i with
      | nil => rw [hdr] at e1; simp at e1
      | cons a r => rw [hdr] at e1; simp at e1; rw [e1]; rfl
    rw [List.head?_drop] at h3
    exact h3

end Go.Proofs.YthcmgaibbpacfaaGreatDoor
