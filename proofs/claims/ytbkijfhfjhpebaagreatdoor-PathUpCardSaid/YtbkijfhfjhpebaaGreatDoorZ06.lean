/-
  The library's symMerge, and its stable sort, at elements of k cells (made by gen_stable.py).
-/
import Derived.Test.YtbkijfhfjhpebaaGreatDoorZ05
namespace Go.Proofs.YtbkijfhfjhpebaaGreatDoor
open Go.RowKit Go.Shelf Go.Sort Go.Lib StableM

theorem three (a b : Prop) : (a ∧ b) ∨ ¬ a ∨ (a ∧ ¬ b) := by
  by_cases h : a
  · by_cases k : b
    · exact Or.inl ⟨h, k⟩
    · exact Or.inr (Or.inr ⟨h, k⟩)
  · exact Or.inr (Or.inl h)

section
variable {P : Program} {k : Nat} {α κ : Type} [Inhabited α] [DecidableEq κ] {key : α → κ} {lt : κ → κ → Bool}

/-- Where the search ends: what it left between both pieces. -/
theorem merge_cross (Ln : Lin lt) {cf : α → α → Int} (hcf : ∀ x y, ltOf cf x y = lt (key x) (key y)) {d : Array α} {p l r z : List α} (hd : d.toList = p ++ l ++ r ++ z) {a m b mid n pp s0 r0 st : Nat} (ha : a = p.length) (hm : m = p.length + l.length) (hb : b = p.length + l.length + r.length) (hul : Up key lt l) (hur : Up key lt r)
    (hn : n = mid + m ∧ pp + 1 = n ∧ a ≤ st ∧ st ≤ m) (h1 : s0 ≤ st ∧ st ≤ r0 ∧ st ≤ mid ∧ n ≤ b + st) (h2 : s0 = a ∨ s0 = n - b) (h3 : r0 = mid ∨ r0 = m) (h4 : st = s0 ∨ ltOf cf d[pp - (st - 1)]! d[st - 1]! = false) (h5 : st = r0 ∨ ltOf cf d[pp - st]! d[st]! = true) :
    (∀ x ∈ r.take (n - st - m), ∀ y ∈ l.drop (st - a), lt (key x) (key y) = true) ∧ (∀ x ∈ l.take (st - a), ∀ y ∈ r.drop (n - st - m), lt (key y) (key x) = false) := by
  obtain ⟨n1, n2, n3, n4⟩ := hn
  obtain ⟨m1, m2, m3, m4⟩ := h1
  constructor
  · by_cases q1 : n - st - m = 0
    · rw [q1]; intro x hx; exact nomatch hx
    by_cases q2 : l.length ≤ st - a
    · rw [List.drop_of_length_le q2]; intro x _ y hy; exact nomatch hy
    have q3 : ¬ st = r0 := by omega
    have e := h5.resolve_left q3
    have e1 := at_r hd (i := n - st - m - 1) (by omega)
    have e2 := at_l hd (i := st - a) (by omega)
    rw [show p.length + (st - a) = st by omega] at e2
    rw [show p.length + l.length + (n - st - m - 1) = pp - st by omega] at e1
    rw [hcf, e1, e2] at e
    intro x hx y hy
    have f1 : lt (key x) (key (l[st - a]'(by omega))) = true := take_lt Ln hur (Or.inr ⟨by omega, e⟩) x hx
    exact drop_gt Ln hul (Or.inr ⟨by omega, f1⟩) y hy
  · by_cases q1 : st - a = 0
    · rw [q1]; intro x hx; exact nomatch hx
    by_cases q2 : r.length ≤ n - st - m
    · rw [List.drop_of_length_le q2]; intro x _ y hy; exact nomatch hy
    have q3 : ¬ st = s0 := by omega
    have e := h4.resolve_left q3
    have e1 := at_r hd (i := n - st - m) (by omega)
    have e2 := at_l hd (i := st - a - 1) (by omega)
    rw [show p.length + (st - a - 1) = st - 1 by omega] at e2
    rw [show p.length + l.length + (n - st - m) = pp - (st - 1) by omega] at e1
    rw [hcf, e1, e2] at e
    intro x hx y hy
    have f1 : lt (key (r[n - st - m]'(by omega))) (key x) = false := take_le Ln hul (Or.inr ⟨by omega, e⟩) x hx
    exact drop_ge Ln hur (Or.inr ⟨by omega, f1⟩) y hy

/-- A row of which is known what it holds. -/
def St1 (enc : α → List Value) (k : Nat) (w0 : World) (blk off size : Nat) (x : List α) (W : World) : Prop := ∃ d : Array α, d.size = size ∧ d.toList = x ∧ SWK enc k w0 blk off d W

def St2 (enc : α → List Value) (k : Nat) (w0 : World) (blk off size : Nat) (key : α → κ) (lt : κ → κ → Bool) (p l1 r1 y : List α) (W : World) : Prop :=
  ∃ q : List α, q.length = l1.length + r1.length ∧ SameK key q (l1 ++ r1) ∧ Up key lt q ∧ St1 enc k w0 blk off size (p ++ q ++ y) W

def St3 (enc : α → List Value) (k : Nat) (w0 : World) (blk off size : Nat) (key : α → κ) (lt : κ → κ → Bool) (p l1 r1 l2 r2 z : List α) (W : World) : Prop :=
  ∃ q q2 : List α, q.length = l1.length + r1.length ∧ SameK key q (l1 ++ r1) ∧ Up key lt q ∧ q2.length = l2.length + r2.length ∧ SameK key q2 (l2 ++ r2) ∧ Up key lt q2 ∧ St1 enc k w0 blk off size (p ++ q ++ q2 ++ z) W

/-- The three calls behind the search. -/
theorem merge_calls (L : SortIn P k) (enc : α → List Value) {blk off : Nat} (cap : Nat) {fv : Value} {d0 : Array α} {w0 : World} (R : RowK enc k w0 blk off d0) (d : Array α) (w2 : World) (hsz : d0.size < 4611686018427387904) (hs : d.size = d0.size) (S : SWK enc k w0 blk off d w2) {p l r z : List α} (hd : d.toList = p ++ l ++ r ++ z) {a m b : Nat} (ha : a = p.length) (hm : m = p.length + l.length) (hb : b = p.length + l.length + r.length) (hul : Up key lt l) (hur : Up key lt r) (Ln : Lin lt)
    (N : Nat) (hN : b - a ≤ N + 1) (HI : ∀ (d : Array α) (w : World) (a m b : Nat) (p l r z : List α), b - a ≤ N → d.size = d0.size → SWK enc k w0 blk off d w → d.toList = p ++ l ++ r ++ z → a = p.length → m = p.length + l.length → b = p.length + l.length + r.length → 0 < l.length → 0 < r.length → Up key lt l → Up key lt r →
      Calls P 116 #[.slice (some ⟨blk, off, none⟩) d0.size cap, .int .i64 a, .int .i64 m, .int .i64 b, fv] w (Merged enc k w0 blk off d0.size key lt p l r z))
    (mid st en : Nat) (hen : en = mid + m - st) (has : a ≤ st) (hsm : st ≤ m ∧ st ≤ mid) (heb : en ≤ b) (hmid : a < mid ∧ mid < b) (l1 l2 r1 r2 : List α) (hl1 : l1 = l.take (st - a)) (hl2 : l2 = l.drop (st - a)) (hr1 : r1 = r.take (en - m)) (hr2 : r2 = r.drop (en - m))
    (X1 : ∀ x ∈ r.take (en - m), ∀ y ∈ l.drop (st - a), lt (key x) (key y) = true) (X2 : ∀ x ∈ l.take (st - a), ∀ y ∈ r.drop (en - m), lt (key y) (key x) = false) :
    Aside (st < m ∧ m < en → Calls P 146 #[.slice (some ⟨blk, off, none⟩) d0.size cap, .int .i64 st, .int .i64 m, .int .i64 en, fv] w2 fun e w' => e = .returned (.tuple #[]) ∧ St1 enc k w0 blk off d0.size (p ++ l1 ++ r1 ++ (l2 ++ r2 ++ z)) w') ∧
    Aside (¬ (st < m ∧ m < en) → St1 enc k w0 blk off d0.size (p ++ l1 ++ r1 ++ (l2 ++ r2 ++ z)) w2) ∧
    Aside (a < st ∧ st < mid → ∀ W, St1 enc k w0 blk off d0.size (p ++ l1 ++ r1 ++ (l2 ++ r2 ++ z)) W → Calls P 116 #[.slice (some ⟨blk, off, none⟩) d0.size cap, .int .i64 a, .int .i64 st, .int .i64 mid, fv] W fun e w' => e = .returned (.tuple #[]) ∧ St2 enc k w0 blk off d0.size key lt p l1 r1 (l2 ++ r2 ++ z) w') ∧
    Aside (¬ (a < st ∧ st < mid) → ∀ W, St1 enc k w0 blk off d0.size (p ++ l1 ++ r1 ++ (l2 ++ r2 ++ z)) W → St2 enc k w0 blk off d0.size key lt p l1 r1 (l2 ++ r2 ++ z) W) ∧
    Aside (mid < en ∧ en < b → ∀ W, St2 enc k w0 blk off d0.size key lt p l1 r1 (l2 ++ r2 ++ z) W → Calls P 116 #[.slice (some ⟨blk, off, none⟩) d0.size cap, .int .i64 mid, .int .i64 en, .int .i64 b, fv] W fun e w' => e = .returned (.tuple #[]) ∧ St3 enc k w0 blk off d0.size key lt p l1 r1 l2 r2 z w') ∧
    Aside (¬ (mid < en ∧ en < b) → ∀ W, St2 enc k w0 blk off d0.size key lt p l1 r1 (l2 ++ r2 ++ z) W → St3 enc k w0 blk off d0.size key lt p l1 r1 l2 r2 z W) ∧
    Aside (∀ W, St3 enc k w0 blk off d0.size key lt p l1 r1 l2 r2 z W → Merged enc k w0 blk off d0.size key lt p l r z (.returned (.tuple #[])) W) := by
  have el : l = l1 ++ l2 := by rw [hl1, hl2, List.take_append_drop]
  have er : r = r1 ++ r2 := by rw [hr1, hr2, List.take_append_drop]
  have k1 : l1.length = st - a := by rw [hl1, List.length_take]; omega
  have k2 : l2.length = m - st := by rw [hl2, List.length_drop]; omega
  have k3 : r1.length = en - m := by rw [hr1, List.length_take]; omega
  have k4 : r2.length = b - en := by rw [hr2, List.length_drop]; omega
  rw [← hl1, ← hr2] at X2
  rw [← hr1, ← hl2] at X1
  rw [el] at hul hd
  rw [er] at hur hd
  have ul := Up.append.1 hul
  have ur := Up.append.1 hur
  refine ⟨fun h => ?_, fun h => ?_, fun h W hW => ?_, fun h W hW => ?_, fun h W hW => ?_, fun h W hW => ?_, fun W hW => ?_⟩
  · have := rotate_in L enc fv blk off cap d0 d w0 w2 R hs S st m en (p ++ l1) l2 r1 (r2 ++ z) (by rw [hd]; simp only [List.append_assoc]) (by rw [List.length_append]; omega) (by rw [List.length_append]; omega) (by rw [List.length_append]; omega) (by omega) (by omega) (by omega)
    rw [hs] at this
    refine this.mono ?_
    rintro e w' ⟨he, d', f1, f2, f3⟩
    exact ⟨he, d', f1, by rw [f2]; simp only [List.append_assoc], f3⟩
  · refine ⟨d, hs, ?_, S⟩
    by_cases q : st < m
    · have : r1 = [] := List.eq_nil_of_length_eq_zero (by omega)
      rw [hd, this]; simp
    · have : l2 = [] := List.eq_nil_of_length_eq_zero (by omega)
      rw [hd, this]; simp
  · obtain ⟨d', f1, f2, f3⟩ := hW
    refine (HI d' W a st mid p l1 r1 (l2 ++ r2 ++ z) (by omega) f1 f3 f2 ha (by omega) (by omega) (by omega) (by omega) ul.1 ur.1).mono ?_
    rintro e w' ⟨he, d'', q, g1, g2, g3, g4, g5, g6⟩
    exact ⟨he, q, g3, g4, g5, d'', g1, g2, g6⟩
  · obtain ⟨d', f1, f2, f3⟩ := hW
    by_cases q : a < st
    · have : r1 = [] := List.eq_nil_of_length_eq_zero (by omega)
      refine ⟨l1, by rw [this]; rfl, by rw [this, List.append_nil]; exact SameK.refl _, ul.1, d', f1, by rw [f2, this, List.append_nil], f3⟩
    · have : l1 = [] := List.eq_nil_of_length_eq_zero (by omega)
      refine ⟨r1, by rw [this]; simp, by rw [this, List.nil_append]; exact SameK.refl _, ur.1, d', f1, by rw [f2, this, List.append_nil], f3⟩
  · obtain ⟨q, g1, g2, g3, d', f1, f2, f3⟩ := hW
    refine (HI d' W mid en b (p ++ q) l2 r2 z (by omega) f1 f3 (by rw [f2]; simp only [List.append_assoc]) (by rw [List.length_append]; omega) (by rw [List.length_append]; omega) (by rw [List.length_append]; omega) (by omega) (by omega) ul.2.1 ur.2.1).mono ?_
    rintro e w' ⟨he, d'', q2, h1, h2, h3, h4, h5, h6⟩
    exact ⟨he, q, q2, g1, g2, g3, h3, h4, h5, d'', h1, h2, h6⟩
  · obtain ⟨q, g1, g2, g3, d', f1, f2, f3⟩ := hW
    by_cases t : mid < en
    · have : r2 = [] := List.eq_nil_of_length_eq_zero (by omega)
      refine ⟨q, l2, g1, g2, g3, by rw [this]; rfl, by rw [this, List.append_nil]; exact SameK.refl _, ul.2.1, d', f1, by rw [f2, this, List.append_nil, List.append_assoc, List.append_assoc, List.append_assoc], f3⟩
    · have : l2 = [] := List.eq_nil_of_length_eq_zero (by omega)
      refine ⟨q, r2, g1, g2, g3, by rw [this]; simp, by rw [this, List.nil_append]; exact SameK.refl _, ur.2.1, d', f1, by rw [f2, this, List.nil_append, List.append_assoc, List.append_assoc, List.append_assoc], f3⟩
  · obtain ⟨q, q2, g1, g2, g3, h1, h2, h3, d', f1, f2, f3⟩ := hW
    obtain ⟨s1, s2⟩ := merge_two Ln hul hur X1 X2 g2 h2 g3 h3
    refine ⟨rfl, d', q ++ q2, f1, by rw [f2]; simp only [List.append_assoc], by rw [el, er]; simp only [List.length_append]; omega, by rw [el, er]; exact s1, s2, f3⟩

set_option maxHeartbeats 16000000 in
set_option maxRecDepth 1000000 in
theorem merge_main (L : SortIn P k) (Ln : Lin lt) (enc : α → List Value) (cf : α → α → Int) (hcf : ∀ x y, ltOf cf x y = lt (key x) (key y)) (g : Nat) (cb : Array Value) (eg : ∀ args w, (callFunc g args).run P w = .ok (.enter g args) w) (blk off cap : Nat) (d0 : Array α) (w0 : World) (hC : CmpLays P g cb enc k cf blk off d0.size w0) (R : RowK enc k w0 blk off d0) (hsz : d0.size < 4611686018427387904) (N : Nat) (HI : ∀ (d : Array α) (w : World) (a m b : Nat) (p l r z : List α), b - a ≤ N → d.size = d0.size → SWK enc k w0 blk off d w → d.toList = p ++ l ++ r ++ z → a = p.length → m = p.length + l.length → b = p.length + l.length + r.length → 0 < l.length → 0 < r.length → Up key lt l → Up key lt r →
      Calls P 116 #[.slice (some ⟨blk, off, none⟩) d0.size cap, .int .i64 a, .int .i64 m, .int .i64 b, .func (.func g) #[] cb] w (Merged enc k w0 blk off d0.size key lt p l r z))
    (d : Array α) (w : World) (a m b : Nat) (p l r z : List α) (hs : d.size = d0.size) (S : SWK enc k w0 blk off d w) (hd : d.toList = p ++ l ++ r ++ z) (ha : a = p.length) (hm : m = p.length + l.length) (hb : b = p.length + l.length + r.length) (hN : b - a ≤ N + 1) (hl1 : 1 < l.length) (hr1 : 1 < r.length) (hul : Up key lt l) (hur : Up key lt r) (mid : Nat) (hmid : mid = (a + b) / 2) :
    Calls P 116 #[.slice (some ⟨blk, off, none⟩) d0.size cap, .int .i64 a, .int .i64 m, .int .i64 b, .func (.func g) #[] cb] w (Merged enc k w0 blk off d0.size key lt p l r z) := by
  have LL := L
  obtain ⟨mixed, fSwap, fRot, fMerge, fStable, aE, zE, t0, a0, z0, v0, t3, a3, z3, v3, t4, a4, z4, v4, t22, a22, z22, v22, t124, a124, z124, v124, t68, a68, z68, v68⟩ := L
  have eM : ∀ args w, (callFunc 116 args).run P w = .ok (.enter 116 args) w := enters_of fMerge (by kernel_rfl) rfl
  have eR : ∀ args w, (callFunc 146 args).run P w = .ok (.enter 146 args) w := enters_of fRot (by kernel_rfl) rfl
  have S0 : Aside (SWK enc k w0 blk off d w) := S
  have HC : Aside (CmpLays P g cb enc k cf blk off d0.size w0) := hC
  have hds : p.length + l.length + r.length + z.length = d0.size := by
    have := congrArg List.length hd
    simp only [List.length_append, Array.length_toList] at this
    omega
  obtain ⟨n, hn⟩ : ∃ n, n = mid + m := ⟨_, rfl⟩
  obtain ⟨pp, hpp⟩ : ∃ pp, pp = n - 1 := ⟨_, rfl⟩
  obtain ⟨s0, r0, hgt⟩ : ∃ s0 r0, (mid < m ∧ s0 = n - b ∧ r0 = mid) ∨ (¬ mid < m ∧ s0 = a ∧ r0 = m) := by
    by_cases q : mid < m
    · exact ⟨_, _, .inl ⟨q, rfl, rfl⟩⟩
    · exact ⟨_, _, .inr ⟨q, rfl, rfl⟩⟩
  have HCR : Aside (∀ st, s0 ≤ st → st ≤ r0 → (st = s0 ∨ ltOf cf d[pp - (st - 1)]! d[st - 1]! = false) → (st = r0 ∨ ltOf cf d[pp - st]! d[st]! = true) → (∀ x ∈ r.take (n - st - m), ∀ y ∈ l.drop (st - a), lt (key x) (key y) = true) ∧ (∀ x ∈ l.take (st - a), ∀ y ∈ r.drop (n - st - m), lt (key y) (key x) = false)) := fun st h1 h2 h3 h4 =>
    merge_cross (mid := mid) (s0 := s0) (r0 := r0) Ln hcf hd ha hm hb hul hur (by omega) (by omega) (by omega) (by omega) h3 h4
  have HE : Aside (a = p.length ∧ m = p.length + l.length ∧ b = p.length + l.length + r.length ∧ d.size = d0.size ∧ d.toList = p ++ l ++ r ++ z) := ⟨ha, hm, hb, hs, hd⟩
  have hma : ((m : Int) - (a : Int) == 1) = false := by rw [beq_eq_false_iff_ne]; omega
  have hbm : ((b : Int) - (m : Int) == 1) = false := by rw [beq_eq_false_iff_ne]; omega
  have hmz : ((a : Int) + (b : Int)) / 2 = (mid : Int) := by omega
  have hnz : (mid : Int) + (m : Int) = (n : Int) := by omega
  have hpz : (n : Int) - 1 = (pp : Int) := by omega
  have HG : ((mid : Int) < (m : Int) ∧ (n : Int) - (b : Int) = (s0 : Int) ∧ Aside (r0 = mid)) ∨ (¬ (mid : Int) < (m : Int) ∧ Aside (s0 = a) ∧ Aside (r0 = m)) := hgt.imp (fun h => ⟨by omega, by omega, h.2.2⟩) (fun h => ⟨by omega, h.2⟩)
  have ham : a < m := by omega
  have hmb : m < b := by omega
  have hbd : b ≤ d0.size := by omega
  have hml : mid < b := by omega
  have hal : a < mid := by omega
  have g1 : a ≤ s0 := by omega
  have g2 : s0 ≤ r0 := by omega
  have g3 : r0 ≤ mid := by omega
  have g4 : r0 ≤ m := by omega
  have g5 : pp < s0 + b := by omega
  have g6 : mid ≤ pp + 1 := by omega
  have g7 : r0 + m ≤ pp + 1 := by omega
  have HN : Aside (n = mid + m ∧ pp + 1 = n ∧ n ≤ s0 + b) := ⟨hn, by omega, by omega⟩
  have hnd : n < 9223372036854775807 := by omega
  have HK : Aside (d.size = d0.size) := hs
  have HUL : Aside (Up key lt l) := hul
  have HUR : Aside (Up key lt r) := hur
  have HI' : Aside _ := HI
  have HZ : Aside (b - a ≤ N + 1) := hN
  clear S hC hd ha hm hb hs hl1 hr1 hds hul hur hcf hmid hn hpp hgt HI hN
  rcases HG with ⟨hgz, hsz0, HR0⟩ | ⟨hgz, hsz0, HR0⟩
  all_goals
    go_enter fMerge, Tryz.ntmps116
    go_wp2
    go_loopg [20, 21] (r0 - s0) (fun kx s t wr => ∃ (st rr : Nat), s = .int .i64 st ∧ t = .int .i64 rr ∧ s0 ≤ st ∧ st ≤ rr ∧ rr ≤ r0 ∧ rr - st ≤ kx ∧ Aside (st = s0 ∨ ltOf cf d[pp - (st - 1)]! d[st - 1]! = false) ∧ Aside (rr = r0 ∨ ltOf cf d[pp - rr]! d[rr]! = true) ∧ Aside (SWK enc k w0 blk off d wr))
    case atStart => exact ⟨s0, r0, by first | go_num | (have := hsz0.out; go_num), by have := HR0.out; go_num, by omega, by omega, by omega, by omega, Or.inl rfl, Or.inl rfl, S0⟩
    case round =>
      clear S0
      obtain ⟨st, rr, rfl, rfl, hmi, hij, hjb, hkx, HS, HJ, S1⟩ := hrel
      by_cases hlt : st < rr
      · have hltz : (st : Int) < (rr : Int) := by omega
        go_wp2_with fail
        obtain ⟨c, hc⟩ : ∃ c : Nat, c = (st + rr) / 2 := ⟨_, rfl⟩
        have hcz : ((st : Int) + (rr : Int)) / 2 = (c : Int) := by omega
        have hic : st ≤ c := by omega
        have hcj : c < rr := by omega
        have hd := HK.out
        simp only [hcz]
        clear hcz hc hma hbm hmz hnz hpz hsz0
        obtain ⟨u, hu⟩ : ∃ u, u = pp - c := ⟨_, rfl⟩
        have huz : (pp : Int) - (c : Int) = (u : Int) := by omega
        have hud : u < d0.size := by omega
        have HU : Aside (u = pp - c) := hu
        clear hu
        cases hL : ltOf cf d[u]! d[c]! with
        | true =>
          have HL : Aside (ltOf cf d[pp - c]! d[c]! = true) := by rw [← HU.out]; exact hL
          have ea1 : ((u : Int)).toNat = u := by omega
          have pa1 : (0 : Int) ≤ (u : Int) := by omega
          have ba1 : (u : Int) < (d0.size : Int) := by omega
          have ra1 : IntKind.i64.wrap ((u : Int)) = (u : Int) := by rw [IntKind.wrap_i64]; omega
          have ec1 : ((c : Int)).toNat = c := by omega
          have pc1 : (0 : Int) ≤ (c : Int) := by omega
          have bc1 : (c : Int) < (d0.size : Int) := by omega
          have rc1 : IntKind.i64.wrap ((c : Int)) = (c : Int) := by rw [IntKind.wrap_i64]; omega
          obtain ⟨x1, hx1⟩ : ∃ x, x = d[u]! := ⟨_, rfl⟩
          obtain ⟨y1, hy1⟩ : ∃ x, x = d[c]! := ⟨_, rfl⟩
          have la1 := S1.out.ld R (by omega) P (u) (by omega)
          have lb1 := S1.out.ld R (by omega) P (c) (by omega)
          rw [← hx1] at la1
          rw [← hy1] at lb1
          have hc1 := S1.out.cmp HC.out (by omega) x1 y1
          have hv1 : cf x1 y1 < 0 := by rw [hx1, hy1]; exact of_decide_eq_true hL
          have hd1 : decide (cf x1 y1 < 0) = true := decide_eq_true hv1
          clear hx1 hy1 hL hd
          go_quiet_grown (first | (go_at_fn g; refine Calls.grown_of (hc1 _ _)))
          have S2 : Aside (SWK enc k w0 blk off d (grow (wr.drewN nq) osq)) := S1.out.grown nq osq
          clear la1 lb1 hc1 S1 hv1 hd1 ea1 pa1 ba1 ra1 ec1 pc1 bc1 rc1
          generalize grow (wr.drewN nq) osq = w2 at S2 ⊢
          clear nq osq
          go_wp2
          go_roundg (c - st)
          case measure => omega
          case rel => exact ⟨st, c, rfl, by go_num, hmi, by omega, by omega, Nat.le_refl _, HS, Or.inr HL.out, S2⟩
        | false =>
          have HL : Aside (ltOf cf d[pp - c]! d[c]! = false) := by rw [← HU.out]; exact hL
          have ea1 : ((u : Int)).toNat = u := by omega
          have pa1 : (0 : Int) ≤ (u : Int) := by omega
          have ba1 : (u : Int) < (d0.size : Int) := by omega
          have ra1 : IntKind.i64.wrap ((u : Int)) = (u : Int) := by rw [IntKind.wrap_i64]; omega
          have ec1 : ((c : Int)).toNat = c := by omega
          have pc1 : (0 : Int) ≤ (c : Int) := by omega
          have bc1 : (c : Int) < (d0.size : Int) := by omega
          have rc1 : IntKind.i64.wrap ((c : Int)) = (c : Int) := by rw [IntKind.wrap_i64]; omega
          obtain ⟨x1, hx1⟩ : ∃ x, x = d[u]! := ⟨_, rfl⟩
          obtain ⟨y1, hy1⟩ : ∃ x, x = d[c]! := ⟨_, rfl⟩
          have la1 := S1.out.ld R (by omega) P (u) (by omega)
          have lb1 := S1.out.ld R (by omega) P (c) (by omega)
          rw [← hx1] at la1
          rw [← hy1] at lb1
          have hc1 := S1.out.cmp HC.out (by omega) x1 y1
          have hv1 : ¬ cf x1 y1 < 0 := by rw [hx1, hy1]; exact of_decide_eq_false hL
          have hd1 : decide (cf x1 y1 < 0) = false := decide_eq_false hv1
          clear hx1 hy1 hL hd
          go_quiet_grown (first | (go_at_fn g; refine Calls.grown_of (hc1 _ _)))
          have S2 : Aside (SWK enc k w0 blk off d (grow (wr.drewN nq) osq)) := S1.out.grown nq osq
          clear la1 lb1 hc1 S1 hv1 hd1 ea1 pa1 ba1 ra1 ec1 pc1 bc1 rc1
          generalize grow (wr.drewN nq) osq = w2 at S2 ⊢
          clear nq osq
          go_wp2
          go_roundg (rr - (c + 1))
          case measure => omega
          case rel => exact ⟨c + 1, rr, by go_num, rfl, by omega, by omega, hjb, Nat.le_refl _, Or.inr (by rw [Nat.add_sub_cancel]; exact HL.out), HJ, S2⟩
      · have hltz : ¬ (st : Int) < (rr : Int) := by omega
        obtain rfl : st = rr := by omega
        obtain ⟨X1, X2⟩ := HCR.out st hmi hjb HS.out HJ.out
        obtain ⟨hn1, hn2, hn3⟩ := HN.out
        obtain ⟨en, hen⟩ : ∃ en, en = n - st := ⟨_, rfl⟩
        have henz : (n : Int) - (st : Int) = (en : Int) := by omega
        have hen1 : en = mid + m - st := by omega
        rw [← hen] at X1 X2
        have HX1 : Aside _ := X1
        have HX2 : Aside _ := X2
        obtain ⟨w2, hw2⟩ : ∃ W, W = wr := ⟨_, rfl⟩
        rw [← hw2] at S1 ⊢
        obtain ⟨l1, hl1⟩ : ∃ y, y = l.take (st - a) := ⟨_, rfl⟩
        obtain ⟨l2, hl2⟩ : ∃ y, y = l.drop (st - a) := ⟨_, rfl⟩
        obtain ⟨r1, hr1⟩ : ∃ y, y = r.take (en - m) := ⟨_, rfl⟩
        obtain ⟨r2, hr2⟩ : ∃ y, y = r.drop (en - m) := ⟨_, rfl⟩
        have hbb : en ≤ b := by omega
        obtain ⟨HROT, N0, HM1, N1, HM2, N2, FIN⟩ := merge_calls LL enc cap (fv := .func (.func g) #[] cb) R d w2 hsz HK.out S1.out HE.out.2.2.2.2 HE.out.1 HE.out.2.1 HE.out.2.2.1 HUL.out HUR.out Ln N HZ.out HI'.out mid st en (by omega) (by omega) (by omega) (by omega) (by omega) l1 l2 r1 r2 hl1 hl2 hr1 hr2 HX1.out HX2.out
        have S2 := S1
        clear hw2 hl1 hl2 hr1 hr2 HX1 HX2 X1 X2 hn1 hn2 hn3 hen HCR HE HS HJ HN HZ HI' HUL HUR hma hbm hmz hnz hpz hsz0 S1 hlt hen1 HR0 
        rcases three ((st : Int) < (m : Int)) ((m : Int) < (en : Int)) with ⟨t1, t2⟩ | t1 | ⟨t1, t2⟩ <;>
          rcases three ((a : Int) < (st : Int)) ((st : Int) < (mid : Int)) with ⟨u1, u2⟩ | u1 | ⟨u1, u2⟩ <;>
          rcases three ((mid : Int) < (en : Int)) ((en : Int) < (b : Int)) with ⟨v1, v2⟩ | v1 | ⟨v1, v2⟩
        all_goals
          first
            | have HR : Aside _ := HROT.out (by omega)
              clear HROT N0
              go_wp2_with fail
              refine Calls.mono HR.out ?_
              rintro e w3 ⟨rfl, T1'⟩
              have T1 : Aside _ := T1'
              clear T1' HR S2
            | have T1 : Aside (St1 enc k w0 blk off d0.size (p ++ l1 ++ r1 ++ (l2 ++ r2 ++ z)) w2) := N0.out (by omega)
              clear HROT N0
          first
            | have HA : Aside _ := HM1.out (by omega) _ T1.out
              go_wp2_with fail
              refine Calls.mono HA.out ?_
              rintro e w4 ⟨rfl, T2'⟩
              have T2 : Aside _ := T2'
              clear T2' HA T1
            | have T2 : Aside _ := N1.out (by omega) _ T1.out
          first
            | have HB : Aside _ := HM2.out (by omega) _ T2.out
              go_wp2_with fail
              refine Calls.mono HB.out ?_
              rintro e w5 ⟨rfl, T3'⟩
              have T3 : Aside _ := T3'
              clear T3' HB T2
            | have T3 : Aside _ := N2.out (by omega) _ T2.out
          go_wp2_with fail
          all_goals go_end0
          all_goals exact FIN.out _ T3.out

/-- symMerge: two pieces of a row, each sorted, are merged; equal keys stay in turn. -/
theorem merge_in (L : SortIn P k) (Ln : Lin lt) (enc : α → List Value) (cf : α → α → Int) (hcf : ∀ x y, ltOf cf x y = lt (key x) (key y)) (g : Nat) (cb : Array Value) (eg : ∀ args w, (callFunc g args).run P w = .ok (.enter g args) w) (blk off cap : Nat) (d0 : Array α) (w0 : World) (hC : CmpLays P g cb enc k cf blk off d0.size w0) (R : RowK enc k w0 blk off d0) (hsz : d0.size < 4611686018427387904) :
    ∀ (N : Nat) (d : Array α) (w : World) (a m b : Nat) (p l r z : List α), b - a ≤ N → d.size = d0.size → SWK enc k w0 blk off d w → d.toList = p ++ l ++ r ++ z → a = p.length → m = p.length + l.length → b = p.length + l.length + r.length → 0 < l.length → 0 < r.length → Up key lt l → Up key lt r →
      Calls P 116 #[.slice (some ⟨blk, off, none⟩) d0.size cap, .int .i64 a, .int .i64 m, .int .i64 b, .func (.func g) #[] cb] w (Merged enc k w0 blk off d0.size key lt p l r z)
  | 0, d, w, a, m, b, p, l, r, z, hN, hs, S, hd, ha, hm, hb, hl, hr, hul, hur => by omega
  | N + 1, d, w, a, m, b, p, l, r, z, hN, hs, S, hd, ha, hm, hb, hl, hr, hul, hur => by
    by_cases q1 : l.length = 1
    · exact merge_left_in L Ln enc cf hcf g cb eg blk off cap d0 w0 hC R hsz d w a m b p l r z hs S hd ha hm hb q1 hr hur
    by_cases q2 : r.length = 1
    · exact merge_right_in L Ln enc cf hcf g cb eg blk off cap d0 w0 hC R hsz d w a m b p l r z hs S hd ha hm hb (by omega) q2 hul
    exact merge_main L Ln enc cf hcf g cb eg blk off cap d0 w0 hC R hsz N (fun d w a m b p l r z => merge_in L Ln enc cf hcf g cb eg blk off cap d0 w0 hC R hsz N d w a m b p l r z) d w a m b p l r z hs S hd ha hm hb hN (by omega) (by omega) hul hur _ rfl

end

end Go.Proofs.YtbkijfhfjhpebaaGreatDoor
