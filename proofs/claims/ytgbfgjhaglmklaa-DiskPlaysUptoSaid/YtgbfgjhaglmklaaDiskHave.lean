/-
  What the statements of layer 7 need of the package's own calls: whatever a disk is in memory; and the statements' head.
-/
import Derived.Test.YtgbfgjhaglmklaaDiskRef
import Derived.Test.YtgbfgjhaglmklaaSep
import Derived.Test.YtgbfgjhaglmklaaPackMath
namespace Go.Proofs.Ytgbfgjhaglmklaa
open Go.RowKit DiskMath PackMath

/-- A disk in memory: at an address, in some blocks, as a state; and what the calls do. -/
structure DiskHave where
  most : Nat
  most_ge : 4194304 ≤ most
  most_le : most ≤ 9223372036854775807
  rep : World → (Nat → Prop) → Addr → Dsk → Prop
  lt : ∀ {W : World} {S : Nat → Prop} {a : Addr} {x : Dsk}, rep W S a x → ∀ i, S i → i < W.heap.size
  keep : ∀ {W W' : World} {S : Nat → Prop} {a : Addr} {x : Dsk}, rep W S a x → (∀ i, S i → W'.heap[i]? = W.heap[i]?) → rep W' S a x
  new : ∀ (room : Int) (w : World), IsI64 room → Calls Try.prog 9 #[.int .i64 room] w fun e w' => ∃ a S, e = .returned (.pointer (some a)) ∧ rep w' S a (newD room) ∧ (∀ i, S i → w.heap.size ≤ i) ∧ Below w.heap.size w w'
  append : ∀ (a : Addr) (S : Nat → Prop) (x : Dsk) (s : ByteArray) (w : World), rep w S a x → x.ok → x.safe.size + x.rest.size + s.size ≤ most → Calls Try.prog 12 #[.pointer (some a), .string s] w fun e w' => ∃ S', e = .returned (.int .i64 (appE x s)) ∧ rep w' S' a (appD x s) ∧ (∀ i, S' i → S i ∨ w.heap.size ≤ i) ∧ But S w w'
  sync : ∀ (a : Addr) (S : Nat → Prop) (x : Dsk) (w : World), rep w S a x → x.ok → Calls Try.prog 14 #[.pointer (some a)] w fun e w' => ∃ S', e = .returned (.tuple #[]) ∧ rep w' S' a (syncD x) ∧ (∀ i, S' i → S i ∨ w.heap.size ≤ i) ∧ But S w w'
  switch : ∀ (a : Addr) (S : Nat → Prop) (x : Dsk) (s : ByteArray) (w : World), rep w S a x → x.ok → s.size ≤ 9223372036854775807 → Calls Try.prog 16 #[.pointer (some a), .string s] w fun e w' => ∃ S', e = .returned (.int .i64 (swE x s)) ∧ rep w' S' a (swD x s) ∧ (∀ i, S' i → S i ∨ w.heap.size ≤ i) ∧ But S w w'
  crash : ∀ (a : Addr) (S : Nat → Prop) (x : Dsk) (keep : Int) (w : World), rep w S a x → x.ok → IsI64 keep → x.safe.size + x.rest.size ≤ most → Calls Try.prog 18 #[.pointer (some a), .int .i64 keep] w fun e w' => ∃ S', e = .returned (.tuple #[]) ∧ rep w' S' a (crashD x keep) ∧ (∀ i, S' i → S i ∨ w.heap.size ≤ i) ∧ But S w w'
  snap : ∀ (a : Addr) (S : Nat → Prop) (x : Dsk) (w : World), rep w S a x → x.ok → x.safe.size + x.rest.size ≤ most → Calls Try.prog 22 #[.pointer (some a)] w fun e w' => e = .returned (.string x.snap) ∧ Below w.heap.size w w'
  log : ∀ (a : Addr) (S : Nat → Prop) (x : Dsk) (w : World), rep w S a x → x.ok → x.safe.size + x.rest.size ≤ most → Calls Try.prog 21 #[.pointer (some a)] w fun e w' => e = .returned (.string (x.safe ++ x.rest)) ∧ Below w.heap.size w w'
  synced : ∀ (a : Addr) (S : Nat → Prop) (x : Dsk) (w : World), rep w S a x → x.ok → x.safe.size + x.rest.size ≤ most → Calls Try.prog 23 #[.pointer (some a)] w fun e w' => e = .returned (.int .i64 (x.safe.size : Int)) ∧ Below w.heap.size w w'
  free : ∀ (a : Addr) (S : Nat → Prop) (x : Dsk) (w : World), rep w S a x → x.ok → x.safe.size + x.rest.size ≤ most → Calls Try.prog 24 #[.pointer (some a)] w fun e w' => e = .returned (.int .i64 x.free) ∧ Below w.heap.size w w'
  copy : ∀ (a : Addr) (S : Nat → Prop) (x : Dsk) (w : World), rep w S a x → x.ok → x.safe.size + x.rest.size ≤ most → Calls Try.prog 11 #[.pointer (some a)] w fun e w' => ∃ b T, e = .returned (.pointer (some b)) ∧ rep w' T b x ∧ (∀ i, T i → w.heap.size ≤ i) ∧ Below w.heap.size w w'
  nilAppend : ∀ (s : ByteArray) (w : World), Calls Try.prog 12 #[.pointer none, .string s] w fun e w' => e = .returned (.int .i64 13) ∧ Below w.heap.size w w'
  nilSync : ∀ (w : World), Calls Try.prog 14 #[.pointer none] w fun e w' => e = .returned (.tuple #[]) ∧ Below w.heap.size w w'
  nilSwitch : ∀ (s : ByteArray) (w : World), Calls Try.prog 16 #[.pointer none, .string s] w fun e w' => e = .returned (.int .i64 13) ∧ Below w.heap.size w w'
  nilCrash : ∀ (keep : Int) (w : World), Calls Try.prog 18 #[.pointer none, .int .i64 keep] w fun e w' => e = .returned (.tuple #[]) ∧ Below w.heap.size w w'
  nilSnap : ∀ (w : World), Calls Try.prog 22 #[.pointer none] w fun e w' => e = .returned (.string ⟨#[]⟩) ∧ Below w.heap.size w w'
  nilLog : ∀ (w : World), Calls Try.prog 21 #[.pointer none] w fun e w' => e = .returned (.string ⟨#[]⟩) ∧ Below w.heap.size w w'
  nilSynced : ∀ (w : World), Calls Try.prog 23 #[.pointer none] w fun e w' => e = .returned (.int .i64 0) ∧ Below w.heap.size w w'
  nilFree : ∀ (w : World), Calls Try.prog 24 #[.pointer none] w fun e w' => e = .returned (.int .i64 0) ∧ Below w.heap.size w w'
  nilCopy : ∀ (w : World), Calls Try.prog 11 #[.pointer none] w fun e w' => e = .returned (.pointer none) ∧ Below w.heap.size w w'

/-- A disk that lies in blocks of P alone. -/
def DiskAt (H : DiskHave) (P : Nat → Prop) (W : World) (a : Addr) (x : Dsk) : Prop := (∃ S, H.rep W S a x ∧ ∀ i, S i → P i) ∧ x.ok

theorem DiskAt.keep {H : DiskHave} {P : Nat → Prop} {W W' : World} {a : Addr} {x : Dsk} (h : DiskAt H P W a x) (hb : ∀ i, P i → i < W.heap.size → W'.heap[i]? = W.heap[i]?) : DiskAt H P W' a x := by
  obtain ⟨⟨S, h1, h2⟩, h3⟩ := h
  exact ⟨⟨S, H.keep h1 fun i hi => hb i (h2 i hi) (H.lt h1 i hi), h2⟩, h3⟩

theorem DiskAt.below {H : DiskHave} {P : Nat → Prop} {W W' : World} {a : Addr} {x : Dsk} (h : DiskAt H P W a x) (hb : Below W.heap.size W W') : DiskAt H P W' a x := h.keep fun i _ hi => hb.block i hi

theorem DiskAt.mono {H : DiskHave} {P Q : Nat → Prop} {W : World} {a : Addr} {x : Dsk} (h : DiskAt H P W a x) (hb : ∀ i, P i → Q i) : DiskAt H Q W a x := by
  obtain ⟨⟨S, h1, h2⟩, h3⟩ := h
  exact ⟨⟨S, h1, fun i hi => hb i (h2 i hi)⟩, h3⟩

/-- One disk, all of it made since w. -/
def Disk1 (H : DiskHave) (w W : World) (a : Addr) (x : Dsk) : Prop := DiskAt H (fun i => w.heap.size ≤ i) W a x ∧ Below w.heap.size w W

theorem Disk1.ok {H : DiskHave} {w W : World} {a : Addr} {x : Dsk} (h : Disk1 H w W a x) : x.ok := h.1.2
theorem Disk1.step {H : DiskHave} {w W W' : World} {a : Addr} {x : Dsk} (h : Disk1 H w W a x) (hb : Below W.heap.size W W') : Disk1 H w W' a x := ⟨h.1.below hb, below_step h.2 hb⟩

theorem Disk1.new {H : DiskHave} {w W : World} (hB : Below w.heap.size w W) (room : Int) (hr : IsI64 room) :
    Calls Try.prog 9 #[.int .i64 room] W fun e w' => ∃ a, e = .returned (.pointer (some a)) ∧ Disk1 H w w' a (newD room) := by
  refine (H.new room W hr).mono ?_
  rintro e w' ⟨a, S, he, h1, h2, h3⟩
  exact ⟨a, he, ⟨⟨S, h1, fun i hi => Nat.le_trans hB.size (h2 i hi)⟩, new_ok (by unfold IsI64 at hr; omega)⟩, below_step hB h3⟩

theorem Disk1.mut {H : DiskHave} {w W w' : World} {a : Addr} {y : Dsk} {S S' : Nat → Prop} (hB : Below w.heap.size w W) (hS : ∀ i, S i → w.heap.size ≤ i) (h1 : H.rep w' S' a y) (h2 : ∀ i, S' i → S i ∨ W.heap.size ≤ i) (h3 : But S W w') (hy : y.ok) : Disk1 H w w' a y :=
  ⟨⟨⟨S', h1, fun i hi => (h2 i hi).elim (hS i) (Nat.le_trans hB.size)⟩, hy⟩, hB.trans (h3.below hS hB.size)⟩

theorem Disk1.append {H : DiskHave} {w W : World} {a : Addr} {x : Dsk} (h : Disk1 H w W a x) (s : ByteArray) (hs : x.safe.size + x.rest.size + s.size ≤ H.most) :
    Calls Try.prog 12 #[.pointer (some a), .string s] W fun e w' => e = .returned (.int .i64 (appE x s)) ∧ Disk1 H w w' a (appD x s) := by
  obtain ⟨⟨⟨S, h1, h2⟩, h3⟩, hB⟩ := h
  refine (H.append a S x s W h1 h3 hs).mono ?_
  rintro e w' ⟨S', he, k1, k2, k3⟩
  exact ⟨he, Disk1.mut hB h2 k1 k2 k3 (app_ok h3)⟩

theorem Disk1.sync {H : DiskHave} {w W : World} {a : Addr} {x : Dsk} (h : Disk1 H w W a x) :
    Calls Try.prog 14 #[.pointer (some a)] W fun e w' => e = .returned (.tuple #[]) ∧ Disk1 H w w' a (syncD x) := by
  obtain ⟨⟨⟨S, h1, h2⟩, h3⟩, hB⟩ := h
  refine (H.sync a S x W h1 h3).mono ?_
  rintro e w' ⟨S', he, k1, k2, k3⟩
  exact ⟨he, Disk1.mut hB h2 k1 k2 k3 (sync_ok h3)⟩

theorem Disk1.switch {H : DiskHave} {w W : World} {a : Addr} {x : Dsk} (h : Disk1 H w W a x) (s : ByteArray) (hs : s.size ≤ 9223372036854775807) :
    Calls Try.prog 16 #[.pointer (some a), .string s] W fun e w' => e = .returned (.int .i64 (swE x s)) ∧ Disk1 H w w' a (swD x s) := by
  obtain ⟨⟨⟨S, h1, h2⟩, h3⟩, hB⟩ := h
  refine (H.switch a S x s W h1 h3 hs).mono ?_
  rintro e w' ⟨S', he, k1, k2, k3⟩
  exact ⟨he, Disk1.mut hB h2 k1 k2 k3 (sw_ok h3)⟩

theorem Disk1.crash {H : DiskHave} {w W : World} {a : Addr} {x : Dsk} (h : Disk1 H w W a x) (keep : Int) (hk : IsI64 keep) (hs : x.safe.size + x.rest.size ≤ H.most) :
    Calls Try.prog 18 #[.pointer (some a), .int .i64 keep] W fun e w' => e = .returned (.tuple #[]) ∧ Disk1 H w w' a (crashD x keep) := by
  obtain ⟨⟨⟨S, h1, h2⟩, h3⟩, hB⟩ := h
  refine (H.crash a S x keep W h1 h3 hk hs).mono ?_
  rintro e w' ⟨S', he, k1, k2, k3⟩
  exact ⟨he, Disk1.mut hB h2 k1 k2 k3 (crash_ok h3)⟩

theorem Disk1.snap {H : DiskHave} {w W : World} {a : Addr} {x : Dsk} (h : Disk1 H w W a x) (hs : x.safe.size + x.rest.size ≤ H.most) :
    Calls Try.prog 22 #[.pointer (some a)] W fun e w' => e = .returned (.string x.snap) ∧ Disk1 H w w' a x := by
  have h0 := h
  obtain ⟨⟨⟨S, h1, h2⟩, h3⟩, hB⟩ := h
  refine (H.snap a S x W h1 h3 hs).mono ?_
  rintro e w' ⟨he, hb⟩
  exact ⟨he, h0.step hb⟩

theorem Disk1.log {H : DiskHave} {w W : World} {a : Addr} {x : Dsk} (h : Disk1 H w W a x) (hs : x.safe.size + x.rest.size ≤ H.most) :
    Calls Try.prog 21 #[.pointer (some a)] W fun e w' => e = .returned (.string (x.safe ++ x.rest)) ∧ Disk1 H w w' a x := by
  have h0 := h
  obtain ⟨⟨⟨S, h1, h2⟩, h3⟩, hB⟩ := h
  refine (H.log a S x W h1 h3 hs).mono ?_
  rintro e w' ⟨he, hb⟩
  exact ⟨he, h0.step hb⟩

theorem Disk1.synced {H : DiskHave} {w W : World} {a : Addr} {x : Dsk} (h : Disk1 H w W a x) (hs : x.safe.size + x.rest.size ≤ H.most) :
    Calls Try.prog 23 #[.pointer (some a)] W fun e w' => e = .returned (.int .i64 (x.safe.size : Int)) ∧ Disk1 H w w' a x := by
  have h0 := h
  obtain ⟨⟨⟨S, h1, h2⟩, h3⟩, hB⟩ := h
  refine (H.synced a S x W h1 h3 hs).mono ?_
  rintro e w' ⟨he, hb⟩
  exact ⟨he, h0.step hb⟩

theorem Disk1.free {H : DiskHave} {w W : World} {a : Addr} {x : Dsk} (h : Disk1 H w W a x) (hs : x.safe.size + x.rest.size ≤ H.most) :
    Calls Try.prog 24 #[.pointer (some a)] W fun e w' => e = .returned (.int .i64 x.free) ∧ Disk1 H w w' a x := by
  have h0 := h
  obtain ⟨⟨⟨S, h1, h2⟩, h3⟩, hB⟩ := h
  refine (H.free a S x W h1 h3 hs).mono ?_
  rintro e w' ⟨he, hb⟩
  exact ⟨he, h0.step hb⟩

set_option maxRecDepth 100000 in
set_option maxHeartbeats 800000 in
theorem DiskHave.shown (H : DiskHave) (w : World) :
    Calls Try.prog 8 #[] w fun e w' => e = .returned (.bool true) ∧ Below w.heap.size w w' := by
  have x1 : newD 9 = ⟨9, ⟨#[]⟩, ⟨#[]⟩, ⟨#[]⟩⟩ := rfl
  have y1 : appD ⟨9, ⟨#[]⟩, ⟨#[]⟩, ⟨#[]⟩⟩ ⟨#[97, 98]⟩ = ⟨9, ⟨#[]⟩, ⟨#[]⟩, ⟨#[97, 98]⟩⟩ := rfl
  have y2 : syncD ⟨9, ⟨#[]⟩, ⟨#[]⟩, ⟨#[97, 98]⟩⟩ = ⟨9, ⟨#[]⟩, ⟨#[97, 98]⟩, ⟨#[]⟩⟩ := rfl
  have y3 : appD ⟨9, ⟨#[]⟩, ⟨#[97, 98]⟩, ⟨#[]⟩⟩ ⟨#[99, 100]⟩ = ⟨9, ⟨#[]⟩, ⟨#[97, 98]⟩, ⟨#[99, 100]⟩⟩ := rfl
  have y4 : crashD ⟨9, ⟨#[]⟩, ⟨#[97, 98]⟩, ⟨#[99, 100]⟩⟩ 1 = ⟨9, ⟨#[]⟩, ⟨#[97, 98, 99]⟩, ⟨#[]⟩⟩ := rfl
  go_enter Try.func8, Try.ntmps8
  go_wp2_with fail
  refine (Disk1.new (H := H) (Below.refl w.heap.size w) 9 (by unfold IsI64; omega)).mono ?_
  rintro e w1 ⟨a, rfl, d1⟩
  rw [x1] at d1
  have D1 := Lib.hid d1
  clear d1
  go_wp2_with fail
  refine (D1.out.append ⟨#[97, 98]⟩ (Nat.le_trans (by decide) H.most_ge)).mono ?_
  rintro e w2 ⟨rfl, d2⟩
  rw [y1] at d2
  have D2 := Lib.hid d2
  clear d2 D1
  go_wp2_with fail
  refine D2.out.sync.mono ?_
  rintro e w3 ⟨rfl, d3⟩
  rw [y2] at d3
  have D3 := Lib.hid d3
  clear d3 D2
  go_wp2_with fail
  refine (D3.out.append ⟨#[99, 100]⟩ (Nat.le_trans (by decide) H.most_ge)).mono ?_
  rintro e w4 ⟨rfl, d4⟩
  rw [y3] at d4
  have D4 := Lib.hid d4
  clear d4 D3
  go_wp2_with fail
  refine (D4.out.crash 1 (by unfold IsI64; omega) (Nat.le_trans (by decide) H.most_ge)).mono ?_
  rintro e w5 ⟨rfl, d5⟩
  rw [y4] at d5
  have D5 := Lib.hid d5
  clear d5 D4
  go_wp2_with fail
  have HL : Hid (Calls Try.prog 21 #[.pointer (some a)] w5 fun e w' => e = .returned (.string ⟨#[97, 98, 99]⟩) ∧ Disk1 H w w' a ⟨9, ⟨#[]⟩, ⟨#[97, 98, 99]⟩, ⟨#[]⟩⟩) := D5.out.log (Nat.le_trans (by decide) H.most_ge)
  refine HL.out.mono ?_
  rintro e w6 ⟨rfl, d6⟩
  have D6 := Lib.hid d6
  clear d6 D5 HL
  go_wp2_with fail
  have HS : Hid (Calls Try.prog 23 #[.pointer (some a)] w6 fun e w' => e = .returned (.int .i64 3) ∧ Disk1 H w w' a ⟨9, ⟨#[]⟩, ⟨#[97, 98, 99]⟩, ⟨#[]⟩⟩) := D6.out.synced (Nat.le_trans (by decide) H.most_ge)
  refine HS.out.mono ?_
  rintro e w7 ⟨rfl, d7⟩
  have hB := d7.2
  clear d7 HS D6
  go_wp2_with fail
  go_ret
  exact ⟨rfl, hB⟩

end Go.Proofs.Ytgbfgjhaglmklaa
