/-
  Whatever is appended, synced, switched to, and lost, each answer, and the disk, are the document's; a copy of it stays as it was: for all rooms and lists of deeds (the first 200 are done) that bring no more bytes than a log may have.
-/
import Derived.Test.YtgbfgjhaglmklaaDiskPlay
import Derived.Deep.LoopGhost
import Derived.OpenShut
import Derived.Deep.RegionHeld3
import Derived.Deep.DeepCutAuto
namespace Go.Proofs.Ytgbfgjhaglmklaa.lawDiskPlays
open Go.RowKit DiskMath PackMath

theorem playS {H : DiskHave} {w W : World} {a b : Addr} {g u : Nat} {x y z : Dsk} {p : Addr} {v : Value} (h : Play2 H w W a b g u x y z) (he : Hid (∀ W : World, Below w.heap.size w W → W.cell? p = some v)) :
    Play2 H w W a b g u x y z ∧ (W.cell? ⟨g, 0, none⟩ = some (.int .i64 z.room) ∧ W.cell? ⟨g, 1, none⟩ = some (.string z.snap) ∧ W.cell? ⟨g, 2, none⟩ = some (.string z.safe) ∧ W.cell? ⟨g, 3, none⟩ = some (.string z.rest)) ∧ W.cell? p = some v :=
  ⟨h, dsk_cells h.box, he.out W h.below⟩

theorem playS_step {H : DiskHave} {w W W' : World} {a b : Addr} {g u : Nat} {x y z : Dsk} {p : Addr} {v : Value} (he : Hid (∀ W : World, Below w.heap.size w W → W.cell? p = some v)) (hb : Below W.heap.size W W')
    (h : Play2 H w W a b g u x y z ∧ (W.cell? ⟨g, 0, none⟩ = some (.int .i64 z.room) ∧ W.cell? ⟨g, 1, none⟩ = some (.string z.snap) ∧ W.cell? ⟨g, 2, none⟩ = some (.string z.safe) ∧ W.cell? ⟨g, 3, none⟩ = some (.string z.rest)) ∧ W.cell? p = some v) : Play2 H w W' a b g u x y z ∧ (W'.cell? ⟨g, 0, none⟩ = some (.int .i64 z.room) ∧ W'.cell? ⟨g, 1, none⟩ = some (.string z.snap) ∧ W'.cell? ⟨g, 2, none⟩ = some (.string z.safe) ∧ W'.cell? ⟨g, 3, none⟩ = some (.string z.rest)) ∧ W'.cell? p = some v := playS (h.1.step hb) he

/-- What a region leaves that asks the document: its answer in a box of its own, and a number. -/
def Told (H : DiskHave) (w : World) (a b : Addr) (g u : Nat) (x y z r : Dsk) (er : Int) (v n : Value) (W : World) : Prop :=
  ∃ k, v = .pointer (some ⟨k, 0, none⟩) ∧ n = .int .i64 er ∧ Play2 H w W a b g u x y z ∧ W.heap[k]? = some (.cells (dskA r) 27 (0, 0))

theorem box_behind {W W' : World} {o : Obj} (hb : Below (W.alloc o).drew.heap.size (W.alloc o).drew W') : W'.heap[W.heap.size]? = some o :=
  (hb.block _ (heap_lt (heap_alloc_new W o))).trans (heap_alloc_new W o)

theorem put_behind {W W' : World} {o : Obj} (hb : Below (W.alloc o).drew.heap.size (W.alloc o).drew W') (z' : Dsk) :
    Below W.heap.size W ((((W'.setCell ⟨W.heap.size, 0, none⟩ (.int .i64 z'.room)).setCell ⟨W.heap.size, 1, none⟩ (.string z'.snap)).setCell ⟨W.heap.size, 2, none⟩ (.string z'.safe)).setCell ⟨W.heap.size, 3, none⟩ (.string z'.rest)) :=
  (((((below_step (((Below.refl _ W).alloc (Nat.le_refl _) o).drew) hb).setCell (p := ⟨W.heap.size, 0, none⟩) (Nat.le_refl _) _).setCell (p := ⟨W.heap.size, 1, none⟩) (Nat.le_refl _) _).setCell (p := ⟨W.heap.size, 2, none⟩) (Nat.le_refl _) _).setCell (p := ⟨W.heap.size, 3, none⟩) (Nat.le_refl _) _)

set_option maxRecDepth 100000 in
set_option maxHeartbeats 16000000 in
theorem core (H : DiskHave) (room : Int) (hr : IsI64 room) (A : Option Addr) (n c : Nat) (ds : List Deed) (hn : n ≤ maxLen) (hkeep : ∀ d ∈ ds, IsI64 d.keep) (hsum : ∀ k, k ≤ ds.length → k ≤ 200 → broughtBy ds k ≤ H.most) (w : World) (h : DeedsIn w w.heap.size A n ds) :
    Calls Try.prog 3 #[.int .i64 room, .slice A n c] w fun e w' => e = .returned (.bool true) ∧ Below w.heap.size w w' := by
  have hml := H.most_le
  have hl := h.1
  have HX := Lib.hid h
  have HL := Lib.hid hl
  have HK := Lib.hid hkeep
  have HS := Lib.hid hsum
  have HR := Lib.hid hr
  have HML := Lib.hid hml
  unfold maxLen at hn
  clear h hl hkeep hsum hr hml
  go_enter Try.func3, Try.ntmps3
  go_wp2_with fail
  refine (H.shown _).mono ?_
  rintro e w1 ⟨rfl, hb1⟩
  go_wp2_with fail
  refine (Disk1.new (H := H) hb1 room HR.out).mono ?_
  rintro e w2 ⟨a, rfl, d2⟩
  go_wp2_with fail
  have hnew : Calls Try.prog 10 #[.int .i64 room] w2 fun e w' => e = .returned (.agg #[.int .i64 (newD room).room, .string (newD room).snap, .string (newD room).safe, .string (newD room).rest]) ∧ Below w2.heap.size w2 w' := refDiskNew room w2
  have hn0 : (newD room).safe.size + (newD room).rest.size ≤ broughtBy ds 0 := by rw [brought_zero]; unfold newD; exact Nat.le_refl _
  generalize newD room = x0 at hnew hn0 d2
  refine hnew.mono ?_
  clear hnew
  rintro e w3 ⟨rfl, hb3⟩
  have P0 : Hid (Play1 H w (w3.alloc (.cells (dskA x0) 27 (0, 0))) a w3.heap.size x0 x0) := by
    obtain ⟨⟨⟨S, r2, hS⟩, hok⟩, hB2⟩ := d2
    have r3 := H.keep r2 fun i hi => hb3.block i (H.lt r2 i hi)
    have hA := (Below.refl w3.heap.size w3).alloc (Nat.le_refl _) (.cells (dskA x0) 27 (0, 0))
    have hz := hb3.size
    have hz2 := hB2.size
    exact ⟨⟨S, H.keep r3 fun i hi => hA.block i (H.lt r3 i hi), hS, fun hi => by have := H.lt r2 _ hi; omega⟩, hok, heap_alloc_new _ _, by omega, (below_step hB2 hb3).alloc (by omega) _⟩
  clear d2 hb3 hb1
  go_wp2_with fail
  change Code.wp _ _ _ _ (w3.alloc (.cells (dskA x0) 27 (0, 0)))
  obtain ⟨g, hg⟩ : ∃ g, g = w3.heap.size := ⟨_, rfl⟩
  rw [← hg] at P0 ⊢
  generalize w3.alloc (.cells (dskA x0) 27 (0, 0)) = w4 at P0 ⊢
  clear hg
  go_loopg [8] 201 (fun gk i wr => ∃ (k : Nat) (x : Dsk), i = .int .i64 (k : Int) ∧ gk + k = 201 ∧ k ≤ n ∧ k ≤ 200 ∧ Hid (Play1 H w wr a g x x) ∧ Hid (x.safe.size + x.rest.size ≤ broughtBy ds k))
  case atStart => exact ⟨0, x0, rfl, by omega, by omega, by omega, P0, hn0⟩
  case round =>
    clear P0 hn0
    obtain ⟨k, x, rfl, hgk, hk, hk2, hP, hZ⟩ := hrel
    have HG := Lib.hid hgk
    clear hgk
    by_cases hlt : k < n ∧ k < 200
    · obtain ⟨l1, l2⟩ := hlt
      obtain ⟨gd, o, rfl, hgd, hcell⟩ := HX.out.2 (by omega)
      have lk : k < ds.length := by have := HL.out; omega
      obtain ⟨e0, e1, e2⟩ := hcell k lk
      obtain ⟨t, ht⟩ : ∃ t, t = ds[k] := ⟨_, rfl⟩
      rw [← ht] at e0 e1 e2
      have hbr := brought_succ ds lk
      have hle := HS.out (k + 1) (by omega) (by omega)
      have hkp := HK.out _ (List.getElem_mem lk)
      rw [← ht] at hbr hkp
      have hz := hZ.out
      have hi0 : (0 : Int) ≤ (k : Int) := by omega
      have hi1 : (k : Int) < (n : Int) := by omega
      have HSZ : Hid (x.safe.size + x.rest.size + t.s.size ≤ broughtBy ds (k + 1) ∧ broughtBy ds (k + 1) ≤ H.most) := ⟨by omega, hle⟩
      have HKP := Lib.hid hkp
      have E0 : Hid (∀ W : World, Below w.heap.size w W → W.cell? ⟨gd, o + k * 3, none⟩ = some (.int .i64 t.kind) ∧ W.cell? ⟨gd, o + k * 3 + 1, none⟩ = some (.int .i64 t.keep) ∧ W.cell? ⟨gd, o + k * 3 + 2, none⟩ = some (.string t.s)) :=
        fun W hb => ⟨(hb.cell (p := ⟨gd, o + k * 3, none⟩) hgd).trans e0, (hb.cell (p := ⟨gd, o + k * 3 + 1, none⟩) hgd).trans e1, (hb.cell (p := ⟨gd, o + k * 3 + 2, none⟩) hgd).trans e2⟩
      clear hcell e0 e1 e2 hbr hle hkp hz ht hgd
      go_wp2_with fail
      refine (hP.out.copy (by have := HSZ.out; omega)).mono ?_
      rintro e w5 ⟨b, rfl, p5, P6⟩
      obtain ⟨n0, n1, n2, n3⟩ := dsk_cells p5.box
      have hg5 := heap_lt p5.box
      clear p5
      go_upto_region 9 with fail
      clear n0 n1 n2 n3
      change Code.wp _ _ _ _ (w5.alloc (.cells (dskA x) 27 (0, 0)))
      obtain ⟨u, hu⟩ : ∃ u, u = w5.heap.size := ⟨_, rfl⟩
      rw [← hu] at P6 ⊢
      generalize w5.alloc (.cells (dskA x) 27 (0, 0)) = w6 at P6 ⊢
      clear hu hg5
      have c6 := E0.out w6 P6.below
      obtain ⟨c0, c1, c2⟩ := c6
      have hcase : ((t.kind == 0) = true) ∨ ((t.kind == 0) = false ∧ (t.kind == 1) = true) ∨ ((t.kind == 0) = false ∧ (t.kind == 1) = false ∧ (t.kind == 2) = true) ∨ ((t.kind == 0) = false ∧ (t.kind == 1) = false ∧ (t.kind == 2) = false) := by
        simp only [beq_eq_false_iff_ne, beq_iff_eq, ne_eq]
        omega
      rcases hcase with k0 | ⟨k0, k1⟩ | ⟨k0, k1, k2⟩ | ⟨k0, k1, k2⟩
      · have R : Hid (∀ W : World, Calls Try.prog 13 #[.agg #[.int .i64 x.room, .string x.snap, .string x.safe, .string x.rest], .string t.s] W fun e w' => e = .returned (.tuple #[.agg #[.int .i64 (appD x t.s).room, .string (appD x t.s).snap, .string (appD x t.s).safe, .string (appD x t.s).rest], .int .i64 (appE x t.s)]) ∧ Below W.heap.size W w') := fun W => refDiskAppend x t.s hP.out.ok W
        have P7' := P6.append t.s (by have := HSZ.out; have := HML.out; omega)
        have hlog := log_append x t.s
        have ES : Hid (∀ W : World, Below w.heap.size w W → W.cell? ⟨gd, o + k * 3 + 2, none⟩ = some (.string t.s)) := fun W hb => (E0.out W hb).2.2
        generalize appD x t.s = y at R P7' hlog
        generalize appE x t.s = er at R P7'
        have HLG : Hid (y.safe.size + y.rest.size ≤ broughtBy ds (k + 1)) := by have := HSZ.out; show _ ≤ _; omega
        clear hlog
        go_wp2_with fail
        refine P7'.mono ?_
        rintro e w7 ⟨rfl, P7⟩
        clear P7' P6 c0 c1 c2
        have hS0 := playS P7 ES
        have hS1 := playS (P7.step ((Below.refl _ w7).drew)) ES
        go_upto_region 14 with fail
        clear P7
        go_cut [12, 13] from 22 to 115 (fun v1 v2 wx => Told H w a b g u y x x y er v1 v2 wx)
        case first =>
          go_region_held3 (fun W => Play2 H w W a b g u y x x ∧ (W.cell? ⟨g, 0, none⟩ = some (.int .i64 x.room) ∧ W.cell? ⟨g, 1, none⟩ = some (.string x.snap) ∧ W.cell? ⟨g, 2, none⟩ = some (.string x.safe) ∧ W.cell? ⟨g, 3, none⟩ = some (.string x.rest)) ∧ W.cell? ⟨gd, o + k * 3 + 2, none⟩ = some (.string t.s))
            (first | (with_reducible assumption) | exact playS_step ES (put_behind hb8 y) hS0 | exact playS_step ES ((Below.refl _ _).alloc (Nat.le_refl _) _) (by with_reducible assumption))
            (first
              | (go_at_call 13; (with_reducible refine (R.out ((w7.alloc (.cells #[.int .i64 0, .string ⟨#[]⟩, .string ⟨#[]⟩, .string ⟨#[]⟩] 27 (0, 0))).drew)).mono ?_); rintro e w8 ⟨rfl, hb8⟩; have hx8 : w8.heap[w7.heap.size]? = some (.cells (dskA ⟨0, ⟨#[]⟩, ⟨#[]⟩, ⟨#[]⟩⟩) 27 (0, 0)) := box_behind hb8; have hf8 := dsk_free (x := ⟨0, ⟨#[]⟩, ⟨#[]⟩, ⟨#[]⟩⟩) hx8; obtain ⟨hf80, hf81, hf82, hf83⟩ := hf8; have hc8 := dsk_cells (x := ⟨0, ⟨#[]⟩, ⟨#[]⟩, ⟨#[]⟩⟩) hx8; obtain ⟨hc80, hc81, hc82, hc83⟩ := hc8; have hS8 := playS_step ES hb8 (by assumption))
              | (go_at_call 13; (with_reducible refine (R.out _).mono ?_); rintro e w8 ⟨rfl, hb8⟩; have hS8 := playS_step ES hb8 (by assumption)))
          · go_wp2_with fail
            go_meet
            case rel => exact ⟨_, rfl, rfl, hS8.1.step ((Below.refl _ _).alloc (Nat.le_refl _) _), heap_alloc_new _ _⟩
          · go_wp2_with fail
            go_meet
            case rel => exact ⟨_, rfl, rfl, hS0.1.step (put_behind hb8 y), (dsk_put hx8).1⟩
        case rest =>
          obtain ⟨v, rfl, rfl, P9, hv⟩ := hcut
          generalize wc = w9 at P9 hv ⊢
          have hc9 := dsk_cells hv
          have hd9 := dsk_cells P9.box
          have hf9 := dsk_free P9.box
          go_upto_region 16 with fail
          have P10 := P9.put (dsk_put P9.box (z' := y)).2 (dsk_put P9.box (z' := y)).1
          generalize (((w9.setCell ⟨g, 0, none⟩ (.int .i64 y.room)).setCell ⟨g, 1, none⟩ (.string y.snap)).setCell ⟨g, 2, none⟩ (.string y.safe)).setCell ⟨g, 3, none⟩ (.string y.rest) = w10 at P10 ⊢
          clear hc9 hd9 hf9 P9 hv
          obtain ⟨n0, n1, n2, n3⟩ := dsk_cells P10.box
          go_wp2_with fail
          refine (P10.same (by have := HSZ.out; have := HLG.out; omega)).mono ?_
          rintro e w11 ⟨rfl, P11⟩
          clear n0 n1 n2 n3
          obtain ⟨n0, n1, n2, n3⟩ := dsk_cells P11.box2
          go_wp2_with fail
          refine (P11.same2 (by have := HSZ.out; omega)).mono ?_
          rintro e w12 ⟨rfl, P12⟩
          clear n0 n1 n2 n3
          go_wp2_with fail
          go_roundg (gk - 1)
          case measure => have := HG.out; omega
          case rel => exact ⟨k + 1, y, by go_num, by have := HG.out; omega, by omega, by omega, P12.back, HLG.out⟩
      · have R : Hid (∀ W : World, Calls Try.prog 15 #[.agg #[.int .i64 x.room, .string x.snap, .string x.safe, .string x.rest]] W fun e w' => e = .returned (.agg #[.int .i64 (syncD x).room, .string (syncD x).snap, .string (syncD x).safe, .string (syncD x).rest]) ∧ Below W.heap.size W w') := fun W => refDiskSync x hP.out.ok W
        have P7' := P6.sync
        have hlog := log_sync x
        generalize syncD x = y at R P7' hlog
        have HLG : Hid (y.safe.size + y.rest.size ≤ broughtBy ds (k + 1)) := by have := HSZ.out; show _ ≤ _; omega
        clear hlog
        go_wp2_with fail
        refine P7'.mono ?_
        rintro e w7 ⟨rfl, P7⟩
        clear P7' P6 c0 c1 c2
        have hd7 := dsk_cells P7.box
        go_wp2_with fail
        refine (R.out _).mono ?_
        rintro e w9 ⟨rfl, hb9⟩
        have P9 := P7.step hb9
        clear hd7 P7 hb9
        have hd9 := dsk_cells P9.box
        have hf9 := dsk_free P9.box
        go_upto_region 27 with fail
        have P10 := P9.put (dsk_put P9.box (z' := y)).2 (dsk_put P9.box (z' := y)).1
        generalize (((w9.setCell ⟨g, 0, none⟩ (.int .i64 y.room)).setCell ⟨g, 1, none⟩ (.string y.snap)).setCell ⟨g, 2, none⟩ (.string y.safe)).setCell ⟨g, 3, none⟩ (.string y.rest) = w10 at P10 ⊢
        clear hd9 hf9 P9
        obtain ⟨n0, n1, n2, n3⟩ := dsk_cells P10.box
        go_wp2_with fail
        refine (P10.same (by have := HSZ.out; have := HLG.out; omega)).mono ?_
        rintro e w11 ⟨rfl, P11⟩
        clear n0 n1 n2 n3
        obtain ⟨n0, n1, n2, n3⟩ := dsk_cells P11.box2
        go_wp2_with fail
        refine (P11.same2 (by have := HSZ.out; omega)).mono ?_
        rintro e w12 ⟨rfl, P12⟩
        clear n0 n1 n2 n3
        go_wp2_with fail
        go_roundg (gk - 1)
        case measure => have := HG.out; omega
        case rel => exact ⟨k + 1, y, by go_num, by have := HG.out; omega, by omega, by omega, P12.back, HLG.out⟩
      · have R : Hid (∀ W : World, Calls Try.prog 17 #[.agg #[.int .i64 x.room, .string x.snap, .string x.safe, .string x.rest], .string t.s] W fun e w' => e = .returned (.tuple #[.agg #[.int .i64 (swD x t.s).room, .string (swD x t.s).snap, .string (swD x t.s).safe, .string (swD x t.s).rest], .int .i64 (swE x t.s)]) ∧ Below W.heap.size W w') := fun W => refDiskSwitch x t.s hP.out.ok W
        have P7' := P6.switch t.s (by have := HSZ.out; have := HML.out; omega)
        have hlog := log_switch x t.s
        have ES : Hid (∀ W : World, Below w.heap.size w W → W.cell? ⟨gd, o + k * 3 + 2, none⟩ = some (.string t.s)) := fun W hb => (E0.out W hb).2.2
        generalize swD x t.s = y at R P7' hlog
        generalize swE x t.s = er at R P7'
        have HLG : Hid (y.safe.size + y.rest.size ≤ broughtBy ds (k + 1)) := by have := HSZ.out; show _ ≤ _; omega
        clear hlog
        go_wp2_with fail
        refine P7'.mono ?_
        rintro e w7 ⟨rfl, P7⟩
        clear P7' P6 c0 c1 c2
        have hS0 := playS P7 ES
        have hS1 := playS (P7.step ((Below.refl _ w7).drew)) ES
        go_upto_region 23 with fail
        clear P7
        go_cut [15, 16] from 22 to 115 (fun v1 v2 wx => Told H w a b g u y x x y er v1 v2 wx)
        case first =>
          go_region_held3 (fun W => Play2 H w W a b g u y x x ∧ (W.cell? ⟨g, 0, none⟩ = some (.int .i64 x.room) ∧ W.cell? ⟨g, 1, none⟩ = some (.string x.snap) ∧ W.cell? ⟨g, 2, none⟩ = some (.string x.safe) ∧ W.cell? ⟨g, 3, none⟩ = some (.string x.rest)) ∧ W.cell? ⟨gd, o + k * 3 + 2, none⟩ = some (.string t.s))
            (first | (with_reducible assumption) | exact playS_step ES (put_behind hb8 y) hS0 | exact playS_step ES ((Below.refl _ _).alloc (Nat.le_refl _) _) (by with_reducible assumption))
            (first
              | (go_at_call 17; (with_reducible refine (R.out ((w7.alloc (.cells #[.int .i64 0, .string ⟨#[]⟩, .string ⟨#[]⟩, .string ⟨#[]⟩] 27 (0, 0))).drew)).mono ?_); rintro e w8 ⟨rfl, hb8⟩; have hx8 : w8.heap[w7.heap.size]? = some (.cells (dskA ⟨0, ⟨#[]⟩, ⟨#[]⟩, ⟨#[]⟩⟩) 27 (0, 0)) := box_behind hb8; have hf8 := dsk_free (x := ⟨0, ⟨#[]⟩, ⟨#[]⟩, ⟨#[]⟩⟩) hx8; obtain ⟨hf80, hf81, hf82, hf83⟩ := hf8; have hc8 := dsk_cells (x := ⟨0, ⟨#[]⟩, ⟨#[]⟩, ⟨#[]⟩⟩) hx8; obtain ⟨hc80, hc81, hc82, hc83⟩ := hc8; have hS8 := playS_step ES hb8 (by assumption))
              | (go_at_call 17; (with_reducible refine (R.out _).mono ?_); rintro e w8 ⟨rfl, hb8⟩; have hS8 := playS_step ES hb8 (by assumption)))
          · go_wp2_with fail
            go_meet
            case rel => exact ⟨_, rfl, rfl, hS8.1.step ((Below.refl _ _).alloc (Nat.le_refl _) _), heap_alloc_new _ _⟩
          · go_wp2_with fail
            go_meet
            case rel => exact ⟨_, rfl, rfl, hS0.1.step (put_behind hb8 y), (dsk_put hx8).1⟩
        case rest =>
          obtain ⟨v, rfl, rfl, P9, hv⟩ := hcut
          generalize wc = w9 at P9 hv ⊢
          have hc9 := dsk_cells hv
          have hd9 := dsk_cells P9.box
          have hf9 := dsk_free P9.box
          go_upto_region 25 with fail
          have P10 := P9.put (dsk_put P9.box (z' := y)).2 (dsk_put P9.box (z' := y)).1
          generalize (((w9.setCell ⟨g, 0, none⟩ (.int .i64 y.room)).setCell ⟨g, 1, none⟩ (.string y.snap)).setCell ⟨g, 2, none⟩ (.string y.safe)).setCell ⟨g, 3, none⟩ (.string y.rest) = w10 at P10 ⊢
          clear hc9 hd9 hf9 P9 hv
          obtain ⟨n0, n1, n2, n3⟩ := dsk_cells P10.box
          go_wp2_with fail
          refine (P10.same (by have := HSZ.out; have := HLG.out; omega)).mono ?_
          rintro e w11 ⟨rfl, P11⟩
          clear n0 n1 n2 n3
          obtain ⟨n0, n1, n2, n3⟩ := dsk_cells P11.box2
          go_wp2_with fail
          refine (P11.same2 (by have := HSZ.out; omega)).mono ?_
          rintro e w12 ⟨rfl, P12⟩
          clear n0 n1 n2 n3
          go_wp2_with fail
          go_roundg (gk - 1)
          case measure => have := HG.out; omega
          case rel => exact ⟨k + 1, y, by go_num, by have := HG.out; omega, by omega, by omega, P12.back, HLG.out⟩
      · have R : Hid (∀ W : World, Calls Try.prog 19 #[.agg #[.int .i64 x.room, .string x.snap, .string x.safe, .string x.rest], .int .i64 t.keep] W fun e w' => e = .returned (.agg #[.int .i64 (crashD x t.keep).room, .string (crashD x t.keep).snap, .string (crashD x t.keep).safe, .string (crashD x t.keep).rest]) ∧ Below W.heap.size W w') := fun W => refDiskCrash x t.keep hP.out.ok W
        have P7' := P6.crash t.keep HKP.out (by have := HSZ.out; omega)
        have hlog := log_crash x t.keep
        have ES : Hid (∀ W : World, Below w.heap.size w W → W.cell? ⟨gd, o + k * 3 + 1, none⟩ = some (.int .i64 t.keep)) := fun W hb => (E0.out W hb).2.1
        generalize crashD x t.keep = y at R P7' hlog
        have HLG : Hid (y.safe.size + y.rest.size ≤ broughtBy ds (k + 1)) := by have := HSZ.out; show _ ≤ _; omega
        clear hlog
        go_wp2_with fail
        refine P7'.mono ?_
        rintro e w7 ⟨rfl, P7⟩
        clear P7' P6 c0 c1 c2
        go_upto_region 11 with fail
        obtain ⟨m0, m1, m2, m3⟩ := dsk_cells P7.box
        have hkeep := ES.out w7 P7.below
        go_region_with (first | (go_at_call 19; (with_reducible refine (R.out _).mono ?_); rintro e w9 ⟨rfl, hb9⟩; have P9 := P7.step (((Below.refl _ w7).drew).trans hb9); have hd9 := dsk_cells P9.box; have hf9 := dsk_free P9.box; obtain ⟨hd90, hd91, hd92, hd93⟩ := hd9; obtain ⟨hf90, hf91, hf92, hf93⟩ := hf9))
        all_goals
          have P10 := P9.put (dsk_put P9.box (z' := y)).2 (dsk_put P9.box (z' := y)).1
          generalize (((w9.setCell ⟨g, 0, none⟩ (.int .i64 y.room)).setCell ⟨g, 1, none⟩ (.string y.snap)).setCell ⟨g, 2, none⟩ (.string y.safe)).setCell ⟨g, 3, none⟩ (.string y.rest) = w10 at P10 ⊢
          clear hd90 hd91 hd92 hd93 hf90 hf91 hf92 hf93 P9 P7 m0 m1 m2 m3 hkeep
          obtain ⟨n0, n1, n2, n3⟩ := dsk_cells P10.box
          go_wp2_with fail
          refine (P10.same (by have := HSZ.out; have := HLG.out; omega)).mono ?_
          rintro e w11 ⟨rfl, P11⟩
          clear n0 n1 n2 n3
          obtain ⟨n0, n1, n2, n3⟩ := dsk_cells P11.box2
          go_wp2_with fail
          refine (P11.same2 (by have := HSZ.out; omega)).mono ?_
          rintro e w12 ⟨rfl, P12⟩
          clear n0 n1 n2 n3
          go_wp2_with fail
          go_roundg (gk - 1)
          case measure => have := HG.out; omega
          case rel => exact ⟨k + 1, y, by go_num, by have := HG.out; omega, by omega, by omega, P12.back, HLG.out⟩
    · have hcase : ¬ (k : Int) < (n : Int) ∨ ((k : Int) < (n : Int) ∧ ¬ (k : Int) < 200) := by omega
      have HB := Lib.hid hP.out.below
      clear hlt
      rcases hcase with c0 | ⟨c0, c1⟩
      all_goals
        go_wp2_with fail
        go_ret
        exact ⟨rfl, HB.out⟩

theorem walk0 (H : DiskHave) (room : Int) (A : Option Addr) (n c : Nat) (ds : List Deed) (w : World) (hsum : ∀ k, k ≤ ds.length → k ≤ 200 → broughtBy ds k ≤ H.most) (hr : (Lit.int .i64 room).wf = true) (hnc : n ≤ c) (hc : c ≤ maxLen) (hds : ∀ x ∈ ds, IsI64 x.keep ∧ x.s.size ≤ maxLen) (h : DeedsIn w w.heap.size A n ds) :
    Calls Try.prog 3 #[.int .i64 room, .slice A n c] w fun e w' => e = .returned (.bool true) ∧ Below w.heap.size w w' :=
  core H room (bounds_i64 hr) A n c ds (Nat.le_trans hnc hc) (fun d hd => (hds d hd).1) hsum w h

end Go.Proofs.Ytgbfgjhaglmklaa.lawDiskPlays
