/-
  The landed audit's lists: what is looked up in inodes and entries; its small functions.
-/
import Derived.Test.YtoobmkkmomiigaaStKey
import Derived.Test.YtoobmkkmomiigaaKmapEntry
import Derived.Test.YtoobmkkmomiigaaAuditGiven
import Derived.Test.YtoobmkkmomiigaaGraphSlices
import Derived.Test.YtoobmkkmomiigaaStampCodeMay
import Derived.Test.YtoobmkkmomiigaaOpCodeName
import Derived.Test.YtoobmkkmomiigaaLater
import Derived.Test.YtoobmkkmomiigaaSep
import Derived.Test.YtoobmkkmomiigaaHeld
import Derived.Test.YtoobmkkmomiigaaRows
namespace Go.Proofs.Ytoobmkkmomiigaa
open Go.RowKit StampMath GraphMath OpMath

theorem beq_dec (a b : Int) : (a == b) = decide (a = b) := by
  by_cases h : a = b
  · simp [h]
  · simp [h]

def iV (x : Int) : Value := .int .i64 x
theorem zeroI (w : World) : (zeroValue 3).run Try.prog w = .ok (iV 0) w := by kernel_rfl

/-- In these two maps lies what is looked up in inodes and entries. -/
structure Looked (W : World) (bk bl : Nat) (N : List Ino) (E : List Ent) : Prop where
  kinds : ∃ K : List (St × Int), KMap stV iV W bk K ∧ ∀ id, lookL K id = kindI N id
  links : ∃ L : List (St × Int), KMap stV iV W bl L ∧ ∀ id, (lookL L id).getD 0 = (linksE E id : Int)

theorem Looked.kept {W W' : World} {bk bl : Nat} {N : List Ino} {E : List Ent} (h : Looked W bk bl N E) (h1 : W'.heap[bk]? = W.heap[bk]?) (h2 : W'.heap[bl]? = W.heap[bl]?) : Looked W' bk bl N E := by
  obtain ⟨⟨K, k1, k2⟩, ⟨L, l1, l2⟩⟩ := h
  exact ⟨⟨K, k1.kept h1, k2⟩, ⟨L, l1.kept h2, l2⟩⟩

theorem Looked.lt {W : World} {bk bl : Nat} {N : List Ino} {E : List Ent} (h : Looked W bk bl N E) : bk < W.heap.size ∧ bl < W.heap.size := by
  obtain ⟨⟨K, k1, k2⟩, ⟨L, l1, l2⟩⟩ := h
  exact ⟨k1.lt, l1.lt⟩

theorem Looked.below {W W' : World} {bk bl : Nat} {N : List Ino} {E : List Ent} (h : Looked W bk bl N E) (hb : Below W.heap.size W W') : Looked W' bk bl N E := h.kept (hb.block _ h.lt.1) (hb.block _ h.lt.2)

theorem Looked.kind_ok {W : World} {bk bl : Nat} {N : List Ino} {E : List Ent} (h : Looked W bk bl N E) (id : St) :
    (Instr.lookup 42 (.map (some bk)) (.agg #[.int .i64 id.1, .int .i64 id.2]) true).run Try.prog W = .ok (.tuple #[.int .i64 ((kindI N id).getD 0), .bool (kindI N id).isSome]) W := by
  obtain ⟨⟨K, k1, k2⟩, _⟩ := h
  have hl := k1.look stShape Try.underlying42 (zeroI W) id true
  rw [if_pos rfl, k2 id, show ((kindI N id).map iV).getD (iV 0) = iV ((kindI N id).getD 0) by cases kindI N id <;> rfl] at hl
  exact hl

theorem Looked.kind {W : World} {bk bl : Nat} {N : List Ino} {E : List Ent} (h : Looked W bk bl N E) (id : St) :
    (Instr.lookup 42 (.map (some bk)) (.agg #[.int .i64 id.1, .int .i64 id.2]) false).run Try.prog W = .ok (.int .i64 ((kindI N id).getD 0)) W := by
  obtain ⟨⟨K, k1, k2⟩, _⟩ := h
  have hl := k1.look stShape Try.underlying42 (zeroI W) id false
  rw [if_neg (by decide), k2 id, show ((kindI N id).map iV).getD (iV 0) = iV ((kindI N id).getD 0) by cases kindI N id <;> rfl] at hl
  exact hl

theorem Looked.link {W : World} {bk bl : Nat} {N : List Ino} {E : List Ent} (h : Looked W bk bl N E) (id : St) :
    (Instr.lookup 42 (.map (some bl)) (.agg #[.int .i64 id.1, .int .i64 id.2]) false).run Try.prog W = .ok (.int .i64 (linksE E id : Nat)) W := by
  obtain ⟨_, ⟨L, l1, l2⟩⟩ := h
  have hl := l1.look stShape Try.underlying42 (zeroI W) id false
  rw [if_neg (by decide), show ((lookL L id).map iV).getD (iV 0) = iV ((lookL L id).getD 0) by cases lookL L id <;> rfl, l2 id] at hl
  exact hl

theorem auRoot_code (w : World) : Calls Try.prog 30 #[] w fun e w' => e = .returned (.agg #[.int .i64 0, .int .i64 0]) ∧ Below w.heap.size w w' := by
  go_enter Try.func30, Try.ntmps30
  go_wp2_with fail
  obtain ⟨z0, z1⟩ := two_cells (heap_alloc_new w (.cells #[.int .i64 0, .int .i64 0] 29))
  exact bodyPost_ret (v := .agg #[.int .i64 0, .int .i64 0]) (by simp [results, Try.results30, go_sem, z0, z1]) rfl ⟨rfl, (Below.refl _ _).alloc (Nat.le_refl _) _⟩

set_option maxRecDepth 100000 in
theorem has_code (A A' : Option Addr) (n c m d bk bl : Nat) (N : List Ino) (E : List Ent) (id : St) (w : World) (h : Looked w bk bl N E) :
    Calls Try.prog 29 #[.agg #[.slice A n c, .slice A' m d, .map (some bk), .map (some bl)], .agg #[.int .i64 id.1, .int .i64 id.2]] w fun e w' => e = .returned (.bool (kindI N id).isSome) ∧ Below w.heap.size w w' := by
  have hb : Below w.heap.size w ((w.alloc (.cells #[.slice A n c, .slice A' m d, .map (some bk), .map (some bl)] 44)).alloc (.cells #[.int .i64 id.1, .int .i64 id.2] 29)) := ((Below.refl _ _).alloc (Nat.le_refl _) _).alloc (by simp) _
  have hl := (h.below hb).kind_ok id
  clear h
  go_enter Try.func29, Try.ntmps29
  go_wp2_with fail
  go_ret
  exact ⟨rfl, hb⟩

set_option maxRecDepth 100000 in
theorem isDir_code (A A' : Option Addr) (n c m d bk bl : Nat) (N : List Ino) (E : List Ent) (id : St) (w : World) (h : Looked w bk bl N E) :
    Calls Try.prog 31 #[.agg #[.slice A n c, .slice A' m d, .map (some bk), .map (some bl)], .agg #[.int .i64 id.1, .int .i64 id.2]] w fun e w' => e = .returned (.bool (decide (kindI N id = some 1))) ∧ Below w.heap.size w w' := by
  have hb : Below w.heap.size w ((w.alloc (.cells #[.slice A n c, .slice A' m d, .map (some bk), .map (some bl)] 44)).alloc (.cells #[.int .i64 id.1, .int .i64 id.2] 29)) := ((Below.refl _ _).alloc (Nat.le_refl _) _).alloc (by simp) _
  have hl := (h.below hb).kind id
  have hv : ((kindI N id).getD 0 == 1) = decide (kindI N id = some 1) := by
    cases kindI N id with
    | none => rfl
    | some k =>
      show (k == 1) = _
      rw [beq_dec]
      simp only [Option.some.injEq]
  generalize (kindI N id).getD 0 = k at hl hv
  clear h
  go_enter Try.func31, Try.ntmps31
  go_wp2_with fail
  go_ret
  exact ⟨by first | rfl | rw [← hv], hb⟩

/-- May so many entries be of an inode? -/
def manyB (x : Ino) (k : Int) : Bool := if x.id = (0, 0) then decide (k = 0) else if x.kind = 1 then decide (k = 1) else decide (1 ≤ k ∧ k ≤ 6)

set_option maxRecDepth 100000 in
set_option maxHeartbeats 1600000 in
theorem mayLinks_code (x : Ino) (k : Int) (w : World) :
    Calls Try.prog 47 #[.agg (inoA x), .int .i64 k] w fun e w' => e = .returned (.bool (manyB x k)) ∧ Below w.heap.size w w' := by
  obtain ⟨b, hb⟩ : ∃ b, b = manyB x k := ⟨_, rfl⟩
  rw [← hb]
  unfold manyB at hb
  have hb0 : Below w.heap.size w (w.alloc (.cells (inoA x) 31)) := (Below.refl _ _).alloc (Nat.le_refl _) _
  have he0 := heap_alloc_new w (.cells (inoA x) 31)
  obtain ⟨⟨i1, i2⟩, xk, xl, xm, xd⟩ := x
  dsimp only at hb
  unfold inoA
  go_enter Try.func47, Try.ntmps47
  go_upto_region 1 with fail
  change Code.wp _ _ _ _ (w.alloc (.cells (inoA ⟨(i1, i2), xk, xl, xm, xd⟩) 31))
  generalize w.alloc (.cells (inoA ⟨(i1, i2), xk, xl, xm, xd⟩) 31) = w1 at he0 hb0 ⊢
  obtain ⟨x0, x1, x2, x3, x4, x5⟩ := ino_cells he0
  have l0 := later_cell x0
  have l1 := later_cell x1
  have HRl : Hid (∀ y, Calls Try.prog 30 #[] (later w1 y) fun e w' => e = .returned (.agg #[.int .i64 0, .int .i64 0]) ∧ Below (later w1 y).heap.size (later w1 y) w') := fun y => auRoot_code _
  have HE := Lib.hid he0
  have HB := Lib.hid hb0
  clear x0 x1 x2 x3 x4 x5 he0 hb0
  by_cases hz : ((i1, i2) : St) = (0, 0)
  · have hv : ∀ W : World, (Op.equalIn 10000 29 (.agg #[.int .i64 i1, .int .i64 i2]) (.agg #[.int .i64 0, .int .i64 0])).run Try.prog W = .ok true W := fun W => by rw [run_eqSt, decide_eq_true hz]
    rw [if_pos hz] at hb
    clear hz
    refine wp_region_later (by kernel_rfl) (by kernel_rfl) ?_
    repeat (go_big_quiet_step (first | (with_reducible exact later_call (HRl.out _))))
    refine wpQuiet_nil ?_
    intro _ hw'
    obtain ⟨y, rfl⟩ := hw'
    clear l0 l1 hv
    have hk : (k == 0) = b := by rw [hb]; exact beq_dec _ _
    clear hb
    go_wp2_with fail
    go_ret
    exact ⟨by first | rfl | rw [← hk], below_step HB.out (later_below w1 y)⟩
  · have hv : ∀ W : World, (Op.equalIn 10000 29 (.agg #[.int .i64 i1, .int .i64 i2]) (.agg #[.int .i64 0, .int .i64 0])).run Try.prog W = .ok false W := fun W => by rw [run_eqSt, decide_eq_false hz]
    rw [if_neg hz] at hb
    clear hz
    refine wp_region_later (by kernel_rfl) (by kernel_rfl) ?_
    repeat (go_big_quiet_step (first | (with_reducible exact later_call (HRl.out _))))
    refine wpQuiet_nil ?_
    intro _ hw'
    obtain ⟨y, rfl⟩ := hw'
    clear l0 l1 hv
    have hB := below_step HB.out (later_below w1 y)
    have he1 := ((later_below w1 y).block _ (heap_lt HE.out)).trans HE.out
    generalize later w1 y = w2 at hB he1 ⊢
    obtain ⟨x0, x1, x2, x3, x4, x5⟩ := ino_cells he1
    clear he1 HRl
    dsimp only at x2
    by_cases hk : xk = 1
    · have hk' : (xk == 1) = true := beq_iff_eq.2 hk
      rw [if_pos hk] at hb
      clear hk
      have hk2 : (k == 1) = b := by rw [hb]; exact beq_dec _ _
      clear hb
      go_wp2_with fail
      go_ret
      exact ⟨by first | rfl | rw [← hk2], hB⟩
    · have hk' : (xk == 1) = false := beq_eq_false_iff_ne.2 hk
      rw [if_neg hk] at hb
      clear hk
      by_cases h1 : 1 ≤ k
      · by_cases h6 : k ≤ 6
        · rw [decide_eq_true ⟨h1, h6⟩] at hb
          subst hb
          go_wp2_with fail
          go_ret
          exact ⟨by first | rfl | simp [h1, h6], hB⟩
        · rw [decide_eq_false (fun q => h6 q.2)] at hb
          subst hb
          go_wp2_with fail
          go_ret
          exact ⟨by first | rfl | simp [h1, h6], hB⟩
      · rw [decide_eq_false (fun q => h1 q.1)] at hb
        subst hb
        go_wp2_with fail
        go_ret
        exact ⟨by first | rfl | simp [h1], hB⟩

end Go.Proofs.Ytoobmkkmomiigaa
