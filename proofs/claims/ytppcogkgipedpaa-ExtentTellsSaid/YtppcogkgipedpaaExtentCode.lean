/-
  The landed code of package extent: its three calls are what the mathematics says.
-/
import Derived.Test.YtppcogkgipedpaaExtentHave
import Derived.Lib.BufferWrite
import Derived.Deep.OwnRows
import Derived.Test.YtppcogkgipedpaaRows
import Derived.ProofKit
import Derived.OpenShut
namespace Go.Proofs.Ytppcogkgipedpaa
open Go.RowKit ExtentMath PackMath

/-- A row of bytes in the block g; beneath B all is as it was. -/
def ByteRow (W : World) (B : Nat) (w : World) (g : Nat) (xs : List UInt8) : Prop :=
  W.heap[g]? = some (.cells (xs.map bcell).toArray 5 (0, 0)) ∧ Below B w W ∧ B ≤ g

theorem made_bytes (n : Nat) : madeCells #[.int .u8 0] n = ((List.replicate n (0 : UInt8)).map bcell).toArray := by
  apply Array.ext
  · simp [size_madeCells]
  · intro i h1 h2
    simp [madeCells, Nat.mod_one, bcell]

theorem wpList_make_bytes {w0 w : World} {ops : Array Oper} {rest : List Oper} {o : Oper} {a : Act} {Q : Exit → Act → World → Prop} {B : Nat}
    (hg : o.guard = none) (l c : Operand) (hop : o.op = Op.makeSlice 35 l c) (hb : Below B w0 w) (hB : B ≤ w.heap.size)
    (kl kc : IntKind) (n : Nat) (hl : a.eval l = .int kl (n : Int)) (hc : a.eval c = .int kc (n : Int)) (hn : n ≤ 100)
    (hK : ∀ w', Hid (ByteRow w' B w0 w.heap.size (List.replicate n 0)) → wpList Try.prog ops Q rest (a.put o.dst (.slice (some ⟨w.heap.size, 0, none⟩) n n)) w') :
    wpList Try.prog ops Q (o :: rest) a w := by
  obtain ⟨i0, hi0, hz0, hz1, hz2⟩ := info_parts u8_info
  refine wpList_make_row w hg l c _ hop 5 i0 (.int .u8 0) Try.underlying35 hi0 hz0 hz1 rfl kl kc n hl hc (by rw [hz2]; omega) (by omega) (hK _ ?_)
  refine ⟨?_, hb.alloc hB _, hB⟩
  rw [made_bytes]
  exact Go.Deep.blk_alloc_new _ _

/-- A string's bytes copied into a row: as many as there is room for. -/
theorem run_copy_str (w : World) (dT sT ty elem : TypeId) (g o dLen dCap : Nat) (s : ByteArray) (cur : Array Value) (t : TypeId)
    (hu : Try.prog.underlying dT = some (.slice elem)) (hs : (Try.prog.info? elem).map (·.size) = some 1) (hg : w.heap[g]? = some (.cells cur t (0, 0))) (hfit : o + min s.size dLen ≤ cur.size) :
    (Builtin.copy_ #[dT, sT] ty #[.slice (some ⟨g, o, none⟩) dLen dCap, .string s]).run Try.prog w =
      .ok (goInt ((min s.size dLen : Nat) : Int)) (w.setRow g (cur.toList.take o ++ (s.data.toList.take (min s.size dLen)).map bcell ++ cur.toList.drop (o + min s.size dLen)).toArray) := by
  have hlen : ((s.data.toList.take (min s.size dLen)).map bcell).length = min s.size dLen := by simp
  have hst := run_storeCells_at Try.prog g o t ((s.data.toList.take (min s.size dLen)).map bcell) 0 cur w hg (by rw [hlen]; simpa using hfit) (by
    intro v hv
    obtain ⟨b, _, rfl⟩ := List.mem_map.1 hv
    rfl)
  rw [hlen] at hst
  simp only [Nat.add_zero] at hst
  have htk : List.take (Nat.min s.size dLen) (List.map (fun b : UInt8 => Value.int IntKind.u8 (b.toNat : Int)) s.data.toList) = (s.data.toList.take (min s.size dLen)).map bcell := by
    rw [List.map_take]
    rfl
  cases hq : Try.prog.info? elem with
  | none => simp [hq] at hs
  | some i =>
    simp [Builtin.copy_, run_underlying hu, Builtin.lenOf, Builtin.firstCells, sizeOf, typeInfo, hq]
    rw [htk, hst]
    simp [Result.andThen]

/-- A row behind a copy. -/
def lay (xs : List UInt8) (o : Nat) (ys : List UInt8) : List UInt8 := xs.take o ++ ys ++ xs.drop (o + ys.length)

theorem lay_len {xs : List UInt8} {o : Nat} {ys : List UInt8} (h : o + ys.length ≤ xs.length) : (lay xs o ys).length = xs.length := by
  unfold lay
  simp
  omega

theorem bAt_lay {xs : List UInt8} {o : Nat} {ys : List UInt8} (h : o + ys.length ≤ xs.length) (i : Nat) : bAt (lay xs o ys) i = if o ≤ i ∧ i < o + ys.length then bAt ys (i - o) else bAt xs i := by
  unfold lay bAt
  simp only [List.getD_eq_getElem?_getD]
  by_cases h1 : i < o
  · rw [if_neg (by omega), List.append_assoc, List.getElem?_append_left (by simp; omega), List.getElem?_take, if_pos h1]
  · by_cases h2 : i < o + ys.length
    · rw [if_pos ⟨by omega, h2⟩, List.append_assoc, List.getElem?_append_right (by simp; omega), List.getElem?_append_left (by simp; omega)]
      congr 2
      simp
      omega
    · rw [if_neg (by omega), List.getElem?_append_right (by simp; omega), List.getElem?_drop]
      congr 2
      simp
      omega

theorem wpList_copy_str {w0 w : World} {ops : Array Oper} {rest : List Oper} {o : Oper} {a : Act} {Q : Exit → Act → World → Prop} {B : Nat} (hgd : o.guard = none) (d x : Operand)
    (ho : o.op = .call { callee := .builtin .copy, args := #[d, x], argTypes := #[35, 9] }) (g off dLen dCap : Nat) (xs : List UInt8) (hR : Hid (ByteRow w B w0 g xs)) (s : ByteArray)
    (hd : a.eval d = .slice (some ⟨g, off, none⟩) dLen dCap) (hx : a.eval x = .string s) (hfit : off + dLen ≤ xs.length)
    (h : ∀ w', Hid (ByteRow w' B w0 g (lay xs off (s.data.toList.take (min s.size dLen)))) → wpList Try.prog ops Q rest (a.put o.dst (goInt ((min s.size dLen : Nat) : Int))) w') : wpList Try.prog ops Q (o :: rest) a w := by
  obtain ⟨hg, hb, hB⟩ := hR.out
  obtain ⟨i0, hi0, hz0, hz1, hz2⟩ := info_parts u8_info
  have hm : (s.data.toList.take (min s.size dLen)).length = min s.size dLen := by
    rw [List.length_take]
    have e : s.data.toList.length = s.size := by simp
    omega
  refine wpList_plain hgd fun K hK => ?_
  have hrun := run_copy_str w 35 9 o.type 5 g off dLen dCap s _ _ Try.underlying35 (by rw [hi0]; simp [hz1]) hg (by rw [List.size_toArray, List.length_map]; omega)
  unfold Oper.wp
  simp only [execOp, ho, resolve, invoke, builtin, Sem.run_bind, Sem.run_pure, Result.andThen_ok, List.map_toArray, List.map_cons, List.map_nil, hd, hx, hrun]
  refine hK _ _ (h _ ⟨?_, ?_, hB⟩)
  · rw [setRow_heap w g _ _ _ _ hg]
    congr 3
    unfold lay
    rw [hm]
    simp
  · exact hb.trans ⟨rfl, rfl, rfl, by simp [World.setRow], fun k hk => setRow_other w g k _ (by omega)⟩

theorem conv_row {w0 w : World} {B g n cap : Nat} {xs : List UInt8} (hR : Hid (ByteRow w B w0 g xs)) (hn : xs.length = n) :
    (convert 35 9 (.slice (some ⟨g, 0, none⟩) n cap)).run Try.prog w = .ok (.string ⟨xs.toArray⟩) w := by
  subst hn
  obtain ⟨hg, _, _⟩ := hR.out
  refine run_convert_bytes_back w _ _ _ _ cap xs Try.underlying35 Try.underlying5 Try.underlying9 (fun j hj => ?_)
  have hh := cell_of_row w g j (xs.map bcell).toArray 5 (0, 0) hg
  rw [show (⟨g, 0, none⟩ : Addr).add j = ⟨g, j, none⟩ by unfold Addr.add; split <;> simp_all, hh]
  simp [bcell, List.getElem?_eq_getElem hj]

/-- The greater one of two numbers, as a variable. -/
theorem wpList_max_nat {w : World} {ops : Array Oper} {rest : List Oper} {o : Oper} {a : Act} {Q : Exit → Act → World → Prop} (hgd : o.guard = none) (x y : Operand) (ats : Array TypeId)
    (ho : o.op = .call { callee := .builtin .max, args := #[x, y], argTypes := ats }) (A C : Int) (n : Nat) (hx : a.eval x = .int .i64 A) (hy : a.eval y = .int .i64 C) (hn : max A C = (n : Int))
    (h : wpList Try.prog ops Q rest (a.put o.dst (.int .i64 (n : Int))) w) : wpList Try.prog ops Q (o :: rest) a w := by
  refine wpList_plain hgd fun K hK => ?_
  have hrun := run_max_int2 (P := Try.prog) (w := w) ats o.type .i64 .i64 A C
  rw [show (if C > A then C else A) = (n : Int) by rw [← hn]; split <;> omega] at hrun
  unfold Oper.wp
  simp only [execOp, ho, resolve, invoke, builtin, Sem.run_bind, Sem.run_pure, Result.andThen_ok, List.map_toArray, List.map_cons, List.map_nil, hx, hy, hrun]
  exact hK _ _ h

/-- What Trunc lays. -/
theorem lay_tL' (d : List UInt8) (n : Nat) : lay (List.replicate n 0) 0 (d.take (min d.length n)) = tL d n := by
  have hl : 0 + (d.take (min d.length n)).length ≤ (List.replicate n (0 : UInt8)).length := by simp; omega
  refine same_bytes (by rw [lay_len hl, tL_len]; simp) fun i hi => ?_
  rw [lay_len hl, List.length_replicate] at hi
  rw [bAt_lay hl, bAt_tL, if_pos hi]
  by_cases h : i < d.length
  · rw [if_pos ⟨Nat.zero_le _, by simp; omega⟩]
    unfold bAt
    simp only [List.getD_eq_getElem?_getD, Nat.sub_zero, List.getElem?_take]
    rw [if_pos (by omega)]
  · rw [if_neg (by simp; omega), bAt_ge (show d.length ≤ i by omega)]
    unfold bAt
    simp [List.getD_eq_getElem?_getD, hi]

/-- What Write lays. -/
theorem lay_wL' (d s : List UInt8) (o n : Nat) (hn : n = max d.length (o + s.length)) : lay (lay (List.replicate n 0) 0 (d.take (min d.length n))) o (s.take (min s.length (n - o))) = wL d s o := by
  rw [lay_tL', Nat.min_eq_left (by omega), List.take_length]
  have hl : o + s.length ≤ (tL d n).length := by rw [tL_len]; omega
  refine same_bytes (by rw [lay_len hl, tL_len, wL_len, hn]) fun i hi => ?_
  rw [lay_len hl, tL_len] at hi
  rw [bAt_lay hl, bAt_wL, bAt_tL, if_pos hi]
  rfl

theorem lay_tL (d : ByteArray) (n : Nat) : lay (List.replicate n 0) 0 (d.data.toList.take (min d.size n)) = tL d.data.toList n := by
  have h := lay_tL' d.data.toList n
  rwa [len_bytes] at h

theorem lay_wL (d s : ByteArray) (o n : Nat) (hn : n = max d.size (o + s.size)) : lay (lay (List.replicate n 0) 0 (d.data.toList.take (min d.size n))) o (s.data.toList.take (min s.size (n - o))) = wL d.data.toList s.data.toList o := by
  have h := lay_wL' d.data.toList s.data.toList o n (by rw [len_bytes, len_bytes]; exact hn)
  rwa [len_bytes, len_bytes] at h

theorem lay_room (d : ByteArray) (n : Nat) : (lay (List.replicate n 0) 0 (d.data.toList.take (min d.size n))).length = n := by rw [lay_tL, tL_len]

set_option maxRecDepth 100000 in
theorem trunc_code (d : ByteArray) (n : Int) (w : World) (hd : d.size ≤ 2000) (hn : IsI64 n) :
    Calls Try.prog 10 #[.string d, .int .i64 n] w fun e w' => e = .returned (.tuple #[.string (tR d n).1, .int .i64 (tR d n).2]) ∧ Below w.heap.size w w' := by
  by_cases h0 : n < 0
  · rw [show tR d n = (d, 1) by unfold tR; rw [if_pos h0]]
    go_enter Try.func10, Try.ntmps10
    go_wp2_with fail
    go_ret2
    exact ⟨rfl, Below.refl _ _⟩
  by_cases h1 : 64 < n
  · rw [show tR d n = (d, 11) by unfold tR; rw [if_neg h0, if_pos (Or.inl h1)]]
    go_enter Try.func10, Try.ntmps10
    go_wp2_with fail
    go_ret2
    exact ⟨rfl, Below.refl _ _⟩
  by_cases h2 : 64 < d.size
  · rw [show tR d n = (d, 11) by unfold tR; rw [if_neg h0, if_pos (Or.inr h2)]]
    go_enter Try.func10, Try.ntmps10
    go_wp2_with fail
    go_ret2
    exact ⟨rfl, Below.refl _ _⟩
  obtain ⟨m, rfl⟩ : ∃ m : Nat, n = (m : Int) := ⟨n.toNat, by omega⟩
  have hm64 : m ≤ 64 := by omega
  rw [show tR d (m : Int) = (⟨(tL d.data.toList m).toArray⟩, 0) by unfold tR; rw [if_neg h0, if_neg (by omega)]; rfl]
  clear h0 h1 hn
  have hl := Lib.hid (lay_tL d m)
  go_enter Try.func10, Try.ntmps10
  go_wp2_with (first
    | (at_make; refine wpList_make_bytes rfl _ _ rfl (Below.refl w.heap.size w) (Nat.le_refl _) _ _ m rfl rfl (by omega) ?_; intro w1 HR1)
    | (refine wpList_copy_str (by rfl) _ _ (by rfl) _ 0 m m _ HR1 d (by rfl) (by rfl) (by simp) ?_; intro w2 HR2; have hcv := conv_row (n := m) (cap := m) HR2 (by rw [hl.out]; exact tL_len _ _)))
  go_ret2
  exact ⟨by rw [← hl.out]; rfl, HR2.out.2.1⟩

set_option maxRecDepth 100000 in
theorem write_code (d : ByteArray) (off : Int) (s : ByteArray) (w : World) (hd : d.size ≤ 2000) (hs : s.size ≤ 2000) (ho : IsI64 off) :
    Calls Try.prog 8 #[.string d, .int .i64 off, .string s] w fun e w' => e = .returned (.tuple #[.string (wR d off s).1, .int .i64 (wR d off s).2]) ∧ Below w.heap.size w w' := by
  have hes : (s.toList == []) = decide (s.size = 0) := by
    rw [ByteArray.toList_eq]
    have e2 : s.data.toList.length = s.size := by simp
    cases hl : s.data.toList with
    | nil => rw [hl] at e2; rw [decide_eq_true (by simpa using e2.symm)]; rfl
    | cons a l => rw [hl, List.length_cons] at e2; rw [decide_eq_false (by omega)]; rfl
  by_cases h0 : off < 0
  · rw [show wR d off s = (d, 1) by unfold wR; rw [if_pos (Or.inl h0)]]
    go_enter Try.func8, Try.ntmps8
    go_wp2_with fail
    go_ret2
    exact ⟨rfl, Below.refl _ _⟩
  by_cases hs0 : s.size = 0
  · rw [show wR d off s = (d, 1) by unfold wR; rw [if_pos (Or.inr hs0)]]
    rw [decide_eq_true hs0] at hes
    go_enter Try.func8, Try.ntmps8
    go_wp2_with fail
    go_ret2
    exact ⟨rfl, Below.refl _ _⟩
  rw [decide_eq_false hs0] at hes
  have hw := Lib.hid (show wrap64 (64 - off) = 64 - off by unfold IsI64 at ho; unfold wrap64; omega)
  by_cases h1 : 64 - off < (s.size : Int)
  · rw [show wR d off s = (d, 11) by unfold wR; rw [if_neg (by omega), if_pos (by omega)]]
    have hq : decide (wrap64 (64 - off) < (s.size : Int)) = true := by rw [hw.out]; exact decide_eq_true h1
    go_enter Try.func8, Try.ntmps8
    go_wp2_with fail
    go_ret2
    exact ⟨rfl, Below.refl _ _⟩
  by_cases h2 : 64 < d.size
  · rw [show wR d off s = (d, 11) by unfold wR; rw [if_neg (by omega), if_pos (by omega)]]
    go_enter Try.func8, Try.ntmps8
    go_wp2_with fail
    go_ret2
    exact ⟨rfl, Below.refl _ _⟩
  obtain ⟨o, rfl⟩ : ∃ m : Nat, off = (m : Int) := ⟨off.toNat, by omega⟩
  obtain ⟨n, hn⟩ : ∃ n, n = max d.size (o + s.size) := ⟨_, rfl⟩
  have hn64 : n ≤ 64 := by omega
  rw [show wR d (o : Int) s = (⟨(wL d.data.toList s.data.toList o).toArray⟩, 0) by unfold wR; rw [if_neg (by omega), if_neg (by omega)]; rfl]
  have hq : decide (wrap64 (64 - (o : Int)) < (s.size : Int)) = false := by rw [hw.out]; exact decide_eq_false h1
  have hw2 := Lib.hid (show max (d.size : Int) ((o : Int) + (s.size : Int)) = (n : Int) by omega)
  have hl := Lib.hid (lay_wL d s o n hn)
  have hll := Lib.hid (show (wL d.data.toList s.data.toList o).length = n by rw [wL_len, len_bytes, len_bytes, hn])
  have hod : o ≤ n := by omega
  have hno : ¬ n = o := by omega
  have hcut := Lib.hid (show o + (n - o) ≤ n by omega)
  clear h0 ho hn
  go_enter Try.func8, Try.ntmps8
  go_wp2_with (first
    | (refine wpList_max_nat (by rfl) _ _ _ (by rfl) _ _ n (by rfl) (by rfl) hw2.out ?_)
    | (at_make; refine wpList_make_bytes rfl _ _ rfl (Below.refl w.heap.size w) (Nat.le_refl _) _ _ n rfl rfl (by omega) ?_; intro w1 HR1)
    | (refine wpList_copy_str (by rfl) _ _ (by rfl) _ 0 n n _ HR1 d (by rfl) (by rfl) (by simp) ?_; intro w2 HR2)
    | (refine wpList_copy_str (by rfl) _ _ (by rfl) _ o (n - o) (n - o) _ HR2 s (by rfl) (by rfl) (by rw [lay_room]; exact hcut.out) ?_; intro w3 HR3; have hcv := conv_row (n := n) (cap := n) HR3 (by rw [hl.out]; exact hll.out)))
  go_ret2
  exact ⟨by rw [← hl.out]; rfl, HR3.out.2.1⟩

theorem read_none (d : ByteArray) (off many : Int) (h : off < 0 ∨ many < 1 ∨ (d.size : Int) ≤ off) : rR d off many = ⟨#[]⟩ := by
  unfold rR
  by_cases h0 : off < 0
  · rw [if_pos h0]
  · rw [if_neg h0]
    have e : (rL d.data.toList off.toNat many.toNat).length = 0 := by rw [rL_len, len_bytes]; omega
    rw [List.length_eq_zero_iff.1 e]

theorem read_cut (d : ByteArray) (o m k : Nat) (hk : k = min m (d.size - o)) : rR d (o : Int) (m : Int) = (d.extract o d.size).extract 0 k := by
  unfold rR
  rw [if_neg (by omega), Int.toNat_natCast, Int.toNat_natCast]
  apply ByteArray.ext
  apply Array.ext'
  have hs : d.data.toList.length = d.size := by simp
  simp only [ByteArray.data_extract, Array.toList_extract, List.extract_eq_take_drop, List.drop_zero, Nat.sub_zero]
  unfold rL
  rw [List.take_of_length_le (l := d.data.toList.drop o) (i := d.size - o) (by simp), hk]
  apply List.ext_getElem?
  intro i
  rw [List.getElem?_take, List.getElem?_take]
  by_cases h1 : i < m
  · rw [if_pos h1]
    by_cases h2 : i < d.size - o
    · rw [if_pos (by omega)]
    · rw [if_neg (by omega), List.getElem?_eq_none (by rw [List.length_drop, hs]; omega)]
  · rw [if_neg h1, if_neg (by omega)]

set_option maxRecDepth 100000 in
theorem read_code (d : ByteArray) (off many : Int) (w : World) (hd : d.size ≤ 2000) (ho : IsI64 off) (hm : IsI64 many) :
    Calls Try.prog 12 #[.string d, .int .i64 off, .int .i64 many] w fun e w' => e = .returned (.string (rR d off many)) ∧ Below w.heap.size w w' := by
  by_cases h0 : off < 0 ∨ many < 1 ∨ (d.size : Int) ≤ off
  · rw [show rR d off many = ⟨#[]⟩ from read_none d off many h0]
    have hq : (decide (off < 0) || decide (many < 1) || decide ((d.size : Int) ≤ off)) = true := by simp; omega
    go_enter Try.func12, Try.ntmps12
    go_wp2_with fail
    all_goals go_ret
    all_goals exact ⟨rfl, Below.refl _ _⟩
  obtain ⟨o, rfl⟩ : ∃ m : Nat, off = (m : Int) := ⟨off.toNat, by omega⟩
  obtain ⟨m, rfl⟩ : ∃ m : Nat, many = (m : Int) := ⟨many.toNat, by omega⟩
  have c1 : o < d.size := by omega
  have c2 : 1 ≤ m := by omega
  have hw : wrap64 ((d.size : Int) - (o : Int)) = ((d.size - o : Nat) : Int) := by unfold wrap64; omega
  clear h0
  go_enter Try.func12, Try.ntmps12
  go_wp2_with fail
  all_goals go_ret
  · exact ⟨by rw [show rR d (o : Int) (m : Int) = (d.extract o d.size).extract 0 (d.size - o) from read_cut d o m _ (by omega)]; rfl, Below.refl _ _⟩
  · exact ⟨by rw [show rR d (o : Int) (m : Int) = (d.extract o d.size).extract 0 m from read_cut d o m _ (by omega)]; rfl, Below.refl _ _⟩

theorem extentHave : ExtentHave :=
  ⟨fun d off s w hd hs ho => write_code d off s w hd hs ho, fun d n w hd hn => trunc_code d n w hd hn, fun d off many w hd ho hm => read_code d off many w hd ho hm⟩

end Go.Proofs.Ytppcogkgipedpaa
