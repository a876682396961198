/-
  The library's IndexFunc and ContainsFunc, at each closure of audit's that comes to them (made by gen_auditidx.py).
-/
import Derived.Test.YtoobmkkmomiigaaAuditCodeB
import Derived.Deep.LoopGhost
import Derived.BigQuiet
namespace Go.Proofs.Ytoobmkkmomiigaa
open Go.RowKit StampMath GraphMath OpMath

theorem any_none {α : Type} {p : α → Bool} {l : List α} (h : ∀ x ∈ l, p x = false) : l.any p = false := by
  rw [List.any_eq_false]
  exact fun x hx => by rw [h x hx]; decide

theorem any_some {α : Type} {p : α → Bool} {l : List α} {x : α} (hx : x ∈ l) (h : p x = true) : l.any p = true := List.any_eq_true.2 ⟨x, hx, h⟩

theorem all_take {α : Type} {p : α → Bool} {l : List α} {k : Nat} (hk : k < l.length) (h : ∀ x ∈ l.take k, p x = false) (h2 : p l[k] = false) : ∀ x ∈ l.take (k + 1), p x = false := by
  intro x hx
  rw [List.take_succ_eq_append_getElem hk] at hx
  rcases List.mem_append.1 hx with hx | hx
  · exact h x hx
  · rw [List.mem_singleton.1 hx]; exact h2

set_option maxRecDepth 100000 in
set_option maxHeartbeats 1600000 in
theorem idx_isNone (p : Ino → Bool) (A : Option Addr) (n c : Nat) (N : List Ino) (hn : n ≤ 1000) (w : World) (h : InosIn w w.heap.size A n N)
    (hC : ∀ (x : Ino), x ∈ N → ∀ W : World, Below w.heap.size w W → Calls Try.prog 41 #[.agg (inoA x)] W fun e w' => e = .returned (.bool (p x)) ∧ Below W.heap.size W w') :
    Calls Try.prog 61 #[.slice A n c, .func (.func 41) #[] #[]] w fun e w' => ∃ i : Int, e = .returned (.int .i64 i) ∧ decide (i ≥ 0) = N.any p ∧ Below w.heap.size w w' := by
  have hl := h.len
  have HI := Lib.hid h
  have HC := Lib.hid hC
  clear h hC
  go_enter Try.func61, Try.ntmps61
  go_wp2_with fail
  go_loopg [8] (n + 1) (fun gk i wr => ∃ k : Nat, i = .int .i64 (k : Int) ∧ gk + k = n + 1 ∧ k ≤ n ∧ Hid (∀ x ∈ N.take k, p x = false) ∧ Hid (Below w.heap.size w wr))
  case atStart => exact ⟨0, rfl, by omega, by omega, (fun x hx => by cases hx), Below.refl _ _⟩
  case round =>
    obtain ⟨k, rfl, hgk, hk, hno, hB⟩ := hrel
    by_cases hlt : k < n
    · obtain ⟨g, o, rfl, hg, hrow⟩ := HI.out.row (by omega)
      have hlow := hB.out.size
      obtain ⟨e0, e1, e2, e3, e4, e5⟩ := (hrow k (by omega)).below hB.out hg
      clear hrow
      have hx := HC.out N[k] (List.getElem_mem (by omega)) wr hB.out
      have hno' := all_take (p := p) (l := N) (k := k) (by omega)
      have hyes := any_some (p := p) (l := N) (x := N[k]) (List.getElem_mem (by omega))
      obtain ⟨v, hv⟩ : ∃ v, v = p N[k] := ⟨_, rfl⟩
      rw [← hv] at hx hno' hyes
      generalize N[k] = x at e0 e1 e2 e3 e4 e5 hx
      have HX := Lib.hid hx
      have HN := Lib.hid hno'
      have HY := Lib.hid hyes
      clear hx hno' hyes hv
      unfold inoA at HX
      cases v with
      | false =>
        go_wp2_with fail
        refine HX.out.mono ?_
        rintro e w2 ⟨rfl, hb2⟩
        go_wp2_with fail
        go_roundg (gk - 1)
        case measure => omega
        case rel => exact ⟨k + 1, by go_num, by omega, by omega, HN.out hno.out (by simp), below_step hB.out hb2⟩
      | true =>
        go_wp2_with fail
        refine HX.out.mono ?_
        rintro e w2 ⟨rfl, hb2⟩
        go_wp2_with fail
        go_ret
        exact ⟨_, rfl, by rw [HY.out (by simp)]; exact decide_eq_true (by omega), below_step hB.out hb2⟩
    · go_wp2_with fail
      go_ret
      exact ⟨_, rfl, by rw [any_none (p := p) (l := N) (fun x hx => hno.out x (by rw [List.take_of_length_le (by omega)]; exact hx))]; rfl, hB.out⟩

set_option maxRecDepth 100000 in
theorem has_isNone (p : Ino → Bool) (A : Option Addr) (n c : Nat) (N : List Ino) (hn : n ≤ 1000) (w : World) (h : InosIn w w.heap.size A n N)
    (hC : ∀ (x : Ino), x ∈ N → ∀ W : World, Below w.heap.size w W → Calls Try.prog 41 #[.agg (inoA x)] W fun e w' => e = .returned (.bool (p x)) ∧ Below W.heap.size W w') :
    Calls Try.prog 40 #[.slice A n c, .func (.func 41) #[] #[]] w fun e w' => e = .returned (.bool (N.any p)) ∧ Below w.heap.size w w' := by
  have HX := Lib.hid (idx_isNone p A n c N hn w h hC)
  clear h hC
  generalize N.any p = v at HX ⊢
  go_enter Try.func40, Try.ntmps40
  go_wp2_with fail
  refine HX.out.mono ?_
  rintro e w2 ⟨i, rfl, hi, hb2⟩
  cases v with
  | false =>
    have hi' := of_decide_eq_false hi
    clear hi
    go_wp2_with fail
    go_ret
    exact ⟨by first | rfl | simp <;> omega, hb2⟩
  | true =>
    have hi' := of_decide_eq_true hi
    clear hi
    go_wp2_with fail
    go_ret
    exact ⟨by first | rfl | simp <;> omega, hb2⟩

set_option maxRecDepth 100000 in
set_option maxHeartbeats 1600000 in
theorem idx_nameless (p : Ent → Bool) (A : Option Addr) (n c : Nat) (N : List Ent) (hn : n ≤ 1000) (w : World) (h : EntsIn w w.heap.size A n N)
    (hC : ∀ (x : Ent), x ∈ N → ∀ W : World, Below w.heap.size w W → Calls Try.prog 43 #[.agg (entA x)] W fun e w' => e = .returned (.bool (p x)) ∧ Below W.heap.size W w') :
    Calls Try.prog 63 #[.slice A n c, .func (.func 43) #[] #[]] w fun e w' => ∃ i : Int, e = .returned (.int .i64 i) ∧ decide (i ≥ 0) = N.any p ∧ Below w.heap.size w w' := by
  have hl := h.len
  have HI := Lib.hid h
  have HC := Lib.hid hC
  clear h hC
  go_enter Try.func63, Try.ntmps63
  go_wp2_with fail
  go_loopg [8] (n + 1) (fun gk i wr => ∃ k : Nat, i = .int .i64 (k : Int) ∧ gk + k = n + 1 ∧ k ≤ n ∧ Hid (∀ x ∈ N.take k, p x = false) ∧ Hid (Below w.heap.size w wr))
  case atStart => exact ⟨0, rfl, by omega, by omega, (fun x hx => by cases hx), Below.refl _ _⟩
  case round =>
    obtain ⟨k, rfl, hgk, hk, hno, hB⟩ := hrel
    by_cases hlt : k < n
    · obtain ⟨g, o, rfl, hg, hrow⟩ := HI.out.row (by omega)
      have hlow := hB.out.size
      obtain ⟨e0, e1, e2, e3, e4⟩ := (hrow k (by omega)).below hB.out hg
      clear hrow
      have hx := HC.out N[k] (List.getElem_mem (by omega)) wr hB.out
      have hno' := all_take (p := p) (l := N) (k := k) (by omega)
      have hyes := any_some (p := p) (l := N) (x := N[k]) (List.getElem_mem (by omega))
      obtain ⟨v, hv⟩ : ∃ v, v = p N[k] := ⟨_, rfl⟩
      rw [← hv] at hx hno' hyes
      generalize N[k] = x at e0 e1 e2 e3 e4 hx
      have HX := Lib.hid hx
      have HN := Lib.hid hno'
      have HY := Lib.hid hyes
      clear hx hno' hyes hv
      unfold entA at HX
      cases v with
      | false =>
        go_wp2_with fail
        refine HX.out.mono ?_
        rintro e w2 ⟨rfl, hb2⟩
        go_wp2_with fail
        go_roundg (gk - 1)
        case measure => omega
        case rel => exact ⟨k + 1, by go_num, by omega, by omega, HN.out hno.out (by simp), below_step hB.out hb2⟩
      | true =>
        go_wp2_with fail
        refine HX.out.mono ?_
        rintro e w2 ⟨rfl, hb2⟩
        go_wp2_with fail
        go_ret
        exact ⟨_, rfl, by rw [HY.out (by simp)]; exact decide_eq_true (by omega), below_step hB.out hb2⟩
    · go_wp2_with fail
      go_ret
      exact ⟨_, rfl, by rw [any_none (p := p) (l := N) (fun x hx => hno.out x (by rw [List.take_of_length_le (by omega)]; exact hx))]; rfl, hB.out⟩

set_option maxRecDepth 100000 in
theorem has_nameless (p : Ent → Bool) (A : Option Addr) (n c : Nat) (N : List Ent) (hn : n ≤ 1000) (w : World) (h : EntsIn w w.heap.size A n N)
    (hC : ∀ (x : Ent), x ∈ N → ∀ W : World, Below w.heap.size w W → Calls Try.prog 43 #[.agg (entA x)] W fun e w' => e = .returned (.bool (p x)) ∧ Below W.heap.size W w') :
    Calls Try.prog 42 #[.slice A n c, .func (.func 43) #[] #[]] w fun e w' => e = .returned (.bool (N.any p)) ∧ Below w.heap.size w w' := by
  have HX := Lib.hid (idx_nameless p A n c N hn w h hC)
  clear h hC
  generalize N.any p = v at HX ⊢
  go_enter Try.func42, Try.ntmps42
  go_wp2_with fail
  refine HX.out.mono ?_
  rintro e w2 ⟨i, rfl, hi, hb2⟩
  cases v with
  | false =>
    have hi' := of_decide_eq_false hi
    clear hi
    go_wp2_with fail
    go_ret
    exact ⟨by first | rfl | simp <;> omega, hb2⟩
  | true =>
    have hi' := of_decide_eq_true hi
    clear hi
    go_wp2_with fail
    go_ret
    exact ⟨by first | rfl | simp <;> omega, hb2⟩

set_option maxRecDepth 100000 in
set_option maxHeartbeats 1600000 in
theorem idx_lost (g0 : Nat) (p : Ent → Bool) (A : Option Addr) (n c : Nat) (N : List Ent) (hn : n ≤ 1000) (w : World) (h : EntsIn w w.heap.size A n N)
    (hC : ∀ (x : Ent), x ∈ N → ∀ W : World, Below w.heap.size w W → Calls Try.prog 44 #[.agg (entA x), .pointer (some ⟨g0, 0, none⟩)] W fun e w' => e = .returned (.bool (p x)) ∧ Below W.heap.size W w') :
    Calls Try.prog 63 #[.slice A n c, .func (.func 44) #[] #[.pointer (some ⟨g0, 0, none⟩)]] w fun e w' => ∃ i : Int, e = .returned (.int .i64 i) ∧ decide (i ≥ 0) = N.any p ∧ Below w.heap.size w w' := by
  have hl := h.len
  have HI := Lib.hid h
  have HC := Lib.hid hC
  clear h hC
  go_enter Try.func63, Try.ntmps63
  go_wp2_with fail
  go_loopg [8] (n + 1) (fun gk i wr => ∃ k : Nat, i = .int .i64 (k : Int) ∧ gk + k = n + 1 ∧ k ≤ n ∧ Hid (∀ x ∈ N.take k, p x = false) ∧ Hid (Below w.heap.size w wr))
  case atStart => exact ⟨0, rfl, by omega, by omega, (fun x hx => by cases hx), Below.refl _ _⟩
  case round =>
    obtain ⟨k, rfl, hgk, hk, hno, hB⟩ := hrel
    by_cases hlt : k < n
    · obtain ⟨g, o, rfl, hg, hrow⟩ := HI.out.row (by omega)
      have hlow := hB.out.size
      obtain ⟨e0, e1, e2, e3, e4⟩ := (hrow k (by omega)).below hB.out hg
      clear hrow
      have hx := HC.out N[k] (List.getElem_mem (by omega)) wr hB.out
      have hno' := all_take (p := p) (l := N) (k := k) (by omega)
      have hyes := any_some (p := p) (l := N) (x := N[k]) (List.getElem_mem (by omega))
      obtain ⟨v, hv⟩ : ∃ v, v = p N[k] := ⟨_, rfl⟩
      rw [← hv] at hx hno' hyes
      generalize N[k] = x at e0 e1 e2 e3 e4 hx
      have HX := Lib.hid hx
      have HN := Lib.hid hno'
      have HY := Lib.hid hyes
      clear hx hno' hyes hv
      unfold entA at HX
      cases v with
      | false =>
        go_wp2_with fail
        refine HX.out.mono ?_
        rintro e w2 ⟨rfl, hb2⟩
        go_wp2_with fail
        go_roundg (gk - 1)
        case measure => omega
        case rel => exact ⟨k + 1, by go_num, by omega, by omega, HN.out hno.out (by simp), below_step hB.out hb2⟩
      | true =>
        go_wp2_with fail
        refine HX.out.mono ?_
        rintro e w2 ⟨rfl, hb2⟩
        go_wp2_with fail
        go_ret
        exact ⟨_, rfl, by rw [HY.out (by simp)]; exact decide_eq_true (by omega), below_step hB.out hb2⟩
    · go_wp2_with fail
      go_ret
      exact ⟨_, rfl, by rw [any_none (p := p) (l := N) (fun x hx => hno.out x (by rw [List.take_of_length_le (by omega)]; exact hx))]; rfl, hB.out⟩

set_option maxRecDepth 100000 in
theorem has_lost (g0 : Nat) (p : Ent → Bool) (A : Option Addr) (n c : Nat) (N : List Ent) (hn : n ≤ 1000) (w : World) (h : EntsIn w w.heap.size A n N)
    (hC : ∀ (x : Ent), x ∈ N → ∀ W : World, Below w.heap.size w W → Calls Try.prog 44 #[.agg (entA x), .pointer (some ⟨g0, 0, none⟩)] W fun e w' => e = .returned (.bool (p x)) ∧ Below W.heap.size W w') :
    Calls Try.prog 42 #[.slice A n c, .func (.func 44) #[] #[.pointer (some ⟨g0, 0, none⟩)]] w fun e w' => e = .returned (.bool (N.any p)) ∧ Below w.heap.size w w' := by
  have HX := Lib.hid (idx_lost g0 p A n c N hn w h hC)
  clear h hC
  generalize N.any p = v at HX ⊢
  go_enter Try.func42, Try.ntmps42
  go_wp2_with fail
  refine HX.out.mono ?_
  rintro e w2 ⟨i, rfl, hi, hb2⟩
  cases v with
  | false =>
    have hi' := of_decide_eq_false hi
    clear hi
    go_wp2_with fail
    go_ret
    exact ⟨by first | rfl | simp <;> omega, hb2⟩
  | true =>
    have hi' := of_decide_eq_true hi
    clear hi
    go_wp2_with fail
    go_ret
    exact ⟨by first | rfl | simp <;> omega, hb2⟩

set_option maxRecDepth 100000 in
set_option maxHeartbeats 1600000 in
theorem idx_miscounted (g0 : Nat) (p : Ino → Bool) (A : Option Addr) (n c : Nat) (N : List Ino) (hn : n ≤ 1000) (w : World) (h : InosIn w w.heap.size A n N)
    (hC : ∀ (x : Ino), x ∈ N → ∀ W : World, Below w.heap.size w W → Calls Try.prog 45 #[.agg (inoA x), .pointer (some ⟨g0, 0, none⟩)] W fun e w' => e = .returned (.bool (p x)) ∧ Below W.heap.size W w') :
    Calls Try.prog 61 #[.slice A n c, .func (.func 45) #[] #[.pointer (some ⟨g0, 0, none⟩)]] w fun e w' => ∃ i : Int, e = .returned (.int .i64 i) ∧ decide (i ≥ 0) = N.any p ∧ Below w.heap.size w w' := by
  have hl := h.len
  have HI := Lib.hid h
  have HC := Lib.hid hC
  clear h hC
  go_enter Try.func61, Try.ntmps61
  go_wp2_with fail
  go_loopg [8] (n + 1) (fun gk i wr => ∃ k : Nat, i = .int .i64 (k : Int) ∧ gk + k = n + 1 ∧ k ≤ n ∧ Hid (∀ x ∈ N.take k, p x = false) ∧ Hid (Below w.heap.size w wr))
  case atStart => exact ⟨0, rfl, by omega, by omega, (fun x hx => by cases hx), Below.refl _ _⟩
  case round =>
    obtain ⟨k, rfl, hgk, hk, hno, hB⟩ := hrel
    by_cases hlt : k < n
    · obtain ⟨g, o, rfl, hg, hrow⟩ := HI.out.row (by omega)
      have hlow := hB.out.size
      obtain ⟨e0, e1, e2, e3, e4, e5⟩ := (hrow k (by omega)).below hB.out hg
      clear hrow
      have hx := HC.out N[k] (List.getElem_mem (by omega)) wr hB.out
      have hno' := all_take (p := p) (l := N) (k := k) (by omega)
      have hyes := any_some (p := p) (l := N) (x := N[k]) (List.getElem_mem (by omega))
      obtain ⟨v, hv⟩ : ∃ v, v = p N[k] := ⟨_, rfl⟩
      rw [← hv] at hx hno' hyes
      generalize N[k] = x at e0 e1 e2 e3 e4 e5 hx
      have HX := Lib.hid hx
      have HN := Lib.hid hno'
      have HY := Lib.hid hyes
      clear hx hno' hyes hv
      unfold inoA at HX
      cases v with
      | false =>
        go_wp2_with fail
        refine HX.out.mono ?_
        rintro e w2 ⟨rfl, hb2⟩
        go_wp2_with fail
        go_roundg (gk - 1)
        case measure => omega
        case rel => exact ⟨k + 1, by go_num, by omega, by omega, HN.out hno.out (by simp), below_step hB.out hb2⟩
      | true =>
        go_wp2_with fail
        refine HX.out.mono ?_
        rintro e w2 ⟨rfl, hb2⟩
        go_wp2_with fail
        go_ret
        exact ⟨_, rfl, by rw [HY.out (by simp)]; exact decide_eq_true (by omega), below_step hB.out hb2⟩
    · go_wp2_with fail
      go_ret
      exact ⟨_, rfl, by rw [any_none (p := p) (l := N) (fun x hx => hno.out x (by rw [List.take_of_length_le (by omega)]; exact hx))]; rfl, hB.out⟩

set_option maxRecDepth 100000 in
theorem has_miscounted (g0 : Nat) (p : Ino → Bool) (A : Option Addr) (n c : Nat) (N : List Ino) (hn : n ≤ 1000) (w : World) (h : InosIn w w.heap.size A n N)
    (hC : ∀ (x : Ino), x ∈ N → ∀ W : World, Below w.heap.size w W → Calls Try.prog 45 #[.agg (inoA x), .pointer (some ⟨g0, 0, none⟩)] W fun e w' => e = .returned (.bool (p x)) ∧ Below W.heap.size W w') :
    Calls Try.prog 40 #[.slice A n c, .func (.func 45) #[] #[.pointer (some ⟨g0, 0, none⟩)]] w fun e w' => e = .returned (.bool (N.any p)) ∧ Below w.heap.size w w' := by
  have HX := Lib.hid (idx_miscounted g0 p A n c N hn w h hC)
  clear h hC
  generalize N.any p = v at HX ⊢
  go_enter Try.func40, Try.ntmps40
  go_wp2_with fail
  refine HX.out.mono ?_
  rintro e w2 ⟨i, rfl, hi, hb2⟩
  cases v with
  | false =>
    have hi' := of_decide_eq_false hi
    clear hi
    go_wp2_with fail
    go_ret
    exact ⟨by first | rfl | simp <;> omega, hb2⟩
  | true =>
    have hi' := of_decide_eq_true hi
    clear hi
    go_wp2_with fail
    go_ret
    exact ⟨by first | rfl | simp <;> omega, hb2⟩

set_option maxRecDepth 100000 in
set_option maxHeartbeats 1600000 in
theorem idx_mislinked (g0 : Nat) (p : Ino → Bool) (A : Option Addr) (n c : Nat) (N : List Ino) (hn : n ≤ 1000) (w : World) (h : InosIn w w.heap.size A n N)
    (hC : ∀ (x : Ino), x ∈ N → ∀ W : World, Below w.heap.size w W → Calls Try.prog 46 #[.agg (inoA x), .pointer (some ⟨g0, 0, none⟩)] W fun e w' => e = .returned (.bool (p x)) ∧ Below W.heap.size W w') :
    Calls Try.prog 61 #[.slice A n c, .func (.func 46) #[] #[.pointer (some ⟨g0, 0, none⟩)]] w fun e w' => ∃ i : Int, e = .returned (.int .i64 i) ∧ decide (i ≥ 0) = N.any p ∧ Below w.heap.size w w' := by
  have hl := h.len
  have HI := Lib.hid h
  have HC := Lib.hid hC
  clear h hC
  go_enter Try.func61, Try.ntmps61
  go_wp2_with fail
  go_loopg [8] (n + 1) (fun gk i wr => ∃ k : Nat, i = .int .i64 (k : Int) ∧ gk + k = n + 1 ∧ k ≤ n ∧ Hid (∀ x ∈ N.take k, p x = false) ∧ Hid (Below w.heap.size w wr))
  case atStart => exact ⟨0, rfl, by omega, by omega, (fun x hx => by cases hx), Below.refl _ _⟩
  case round =>
    obtain ⟨k, rfl, hgk, hk, hno, hB⟩ := hrel
    by_cases hlt : k < n
    · obtain ⟨g, o, rfl, hg, hrow⟩ := HI.out.row (by omega)
      have hlow := hB.out.size
      obtain ⟨e0, e1, e2, e3, e4, e5⟩ := (hrow k (by omega)).below hB.out hg
      clear hrow
      have hx := HC.out N[k] (List.getElem_mem (by omega)) wr hB.out
      have hno' := all_take (p := p) (l := N) (k := k) (by omega)
      have hyes := any_some (p := p) (l := N) (x := N[k]) (List.getElem_mem (by omega))
      obtain ⟨v, hv⟩ : ∃ v, v = p N[k] := ⟨_, rfl⟩
      rw [← hv] at hx hno' hyes
      generalize N[k] = x at e0 e1 e2 e3 e4 e5 hx
      have HX := Lib.hid hx
      have HN := Lib.hid hno'
      have HY := Lib.hid hyes
      clear hx hno' hyes hv
      unfold inoA at HX
      cases v with
      | false =>
        go_wp2_with fail
        refine HX.out.mono ?_
        rintro e w2 ⟨rfl, hb2⟩
        go_wp2_with fail
        go_roundg (gk - 1)
        case measure => omega
        case rel => exact ⟨k + 1, by go_num, by omega, by omega, HN.out hno.out (by simp), below_step hB.out hb2⟩
      | true =>
        go_wp2_with fail
        refine HX.out.mono ?_
        rintro e w2 ⟨rfl, hb2⟩
        go_wp2_with fail
        go_ret
        exact ⟨_, rfl, by rw [HY.out (by simp)]; exact decide_eq_true (by omega), below_step hB.out hb2⟩
    · go_wp2_with fail
      go_ret
      exact ⟨_, rfl, by rw [any_none (p := p) (l := N) (fun x hx => hno.out x (by rw [List.take_of_length_le (by omega)]; exact hx))]; rfl, hB.out⟩

set_option maxRecDepth 100000 in
theorem has_mislinked (g0 : Nat) (p : Ino → Bool) (A : Option Addr) (n c : Nat) (N : List Ino) (hn : n ≤ 1000) (w : World) (h : InosIn w w.heap.size A n N)
    (hC : ∀ (x : Ino), x ∈ N → ∀ W : World, Below w.heap.size w W → Calls Try.prog 46 #[.agg (inoA x), .pointer (some ⟨g0, 0, none⟩)] W fun e w' => e = .returned (.bool (p x)) ∧ Below W.heap.size W w') :
    Calls Try.prog 40 #[.slice A n c, .func (.func 46) #[] #[.pointer (some ⟨g0, 0, none⟩)]] w fun e w' => e = .returned (.bool (N.any p)) ∧ Below w.heap.size w w' := by
  have HX := Lib.hid (idx_mislinked g0 p A n c N hn w h hC)
  clear h hC
  generalize N.any p = v at HX ⊢
  go_enter Try.func40, Try.ntmps40
  go_wp2_with fail
  refine HX.out.mono ?_
  rintro e w2 ⟨i, rfl, hi, hb2⟩
  cases v with
  | false =>
    have hi' := of_decide_eq_false hi
    clear hi
    go_wp2_with fail
    go_ret
    exact ⟨by first | rfl | simp <;> omega, hb2⟩
  | true =>
    have hi' := of_decide_eq_true hi
    clear hi
    go_wp2_with fail
    go_ret
    exact ⟨by first | rfl | simp <;> omega, hb2⟩

set_option maxRecDepth 100000 in
set_option maxHeartbeats 1600000 in
theorem idx_tooMuch (p : Ino → Bool) (A : Option Addr) (n c : Nat) (N : List Ino) (hn : n ≤ 1000) (w : World) (h : InosIn w w.heap.size A n N)
    (hC : ∀ (x : Ino), x ∈ N → ∀ W : World, Below w.heap.size w W → Calls Try.prog 48 #[.agg (inoA x)] W fun e w' => e = .returned (.bool (p x)) ∧ Below W.heap.size W w') :
    Calls Try.prog 61 #[.slice A n c, .func (.func 48) #[] #[]] w fun e w' => ∃ i : Int, e = .returned (.int .i64 i) ∧ decide (i ≥ 0) = N.any p ∧ Below w.heap.size w w' := by
  have hl := h.len
  have HI := Lib.hid h
  have HC := Lib.hid hC
  clear h hC
  go_enter Try.func61, Try.ntmps61
  go_wp2_with fail
  go_loopg [8] (n + 1) (fun gk i wr => ∃ k : Nat, i = .int .i64 (k : Int) ∧ gk + k = n + 1 ∧ k ≤ n ∧ Hid (∀ x ∈ N.take k, p x = false) ∧ Hid (Below w.heap.size w wr))
  case atStart => exact ⟨0, rfl, by omega, by omega, (fun x hx => by cases hx), Below.refl _ _⟩
  case round =>
    obtain ⟨k, rfl, hgk, hk, hno, hB⟩ := hrel
    by_cases hlt : k < n
    · obtain ⟨g, o, rfl, hg, hrow⟩ := HI.out.row (by omega)
      have hlow := hB.out.size
      obtain ⟨e0, e1, e2, e3, e4, e5⟩ := (hrow k (by omega)).below hB.out hg
      clear hrow
      have hx := HC.out N[k] (List.getElem_mem (by omega)) wr hB.out
      have hno' := all_take (p := p) (l := N) (k := k) (by omega)
      have hyes := any_some (p := p) (l := N) (x := N[k]) (List.getElem_mem (by omega))
      obtain ⟨v, hv⟩ : ∃ v, v = p N[k] := ⟨_, rfl⟩
      rw [← hv] at hx hno' hyes
      generalize N[k] = x at e0 e1 e2 e3 e4 e5 hx
      have HX := Lib.hid hx
      have HN := Lib.hid hno'
      have HY := Lib.hid hyes
      clear hx hno' hyes hv
      unfold inoA at HX
      cases v with
      | false =>
        go_wp2_with fail
        refine HX.out.mono ?_
        rintro e w2 ⟨rfl, hb2⟩
        go_wp2_with fail
        go_roundg (gk - 1)
        case measure => omega
        case rel => exact ⟨k + 1, by go_num, by omega, by omega, HN.out hno.out (by simp), below_step hB.out hb2⟩
      | true =>
        go_wp2_with fail
        refine HX.out.mono ?_
        rintro e w2 ⟨rfl, hb2⟩
        go_wp2_with fail
        go_ret
        exact ⟨_, rfl, by rw [HY.out (by simp)]; exact decide_eq_true (by omega), below_step hB.out hb2⟩
    · go_wp2_with fail
      go_ret
      exact ⟨_, rfl, by rw [any_none (p := p) (l := N) (fun x hx => hno.out x (by rw [List.take_of_length_le (by omega)]; exact hx))]; rfl, hB.out⟩

set_option maxRecDepth 100000 in
theorem has_tooMuch (p : Ino → Bool) (A : Option Addr) (n c : Nat) (N : List Ino) (hn : n ≤ 1000) (w : World) (h : InosIn w w.heap.size A n N)
    (hC : ∀ (x : Ino), x ∈ N → ∀ W : World, Below w.heap.size w W → Calls Try.prog 48 #[.agg (inoA x)] W fun e w' => e = .returned (.bool (p x)) ∧ Below W.heap.size W w') :
    Calls Try.prog 40 #[.slice A n c, .func (.func 48) #[] #[]] w fun e w' => e = .returned (.bool (N.any p)) ∧ Below w.heap.size w w' := by
  have HX := Lib.hid (idx_tooMuch p A n c N hn w h hC)
  clear h hC
  generalize N.any p = v at HX ⊢
  go_enter Try.func40, Try.ntmps40
  go_wp2_with fail
  refine HX.out.mono ?_
  rintro e w2 ⟨i, rfl, hi, hb2⟩
  cases v with
  | false =>
    have hi' := of_decide_eq_false hi
    clear hi
    go_wp2_with fail
    go_ret
    exact ⟨by first | rfl | simp <;> omega, hb2⟩
  | true =>
    have hi' := of_decide_eq_true hi
    clear hi
    go_wp2_with fail
    go_ret
    exact ⟨by first | rfl | simp <;> omega, hb2⟩

end Go.Proofs.Ytoobmkkmomiigaa
