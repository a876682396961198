/-
  Whatever was done, what is synced stays, whatever crashes, and what stays of the log is a begin of it; the snapshot stays: for all rooms, numbers and lists of deeds (the first 200 are done) that bring no more bytes than a log may have.
-/
import Derived.Test.YtgbfgjhaglmklaaDiskLaw
import Derived.Test.YtgbfgjhaglmklaaDeeds
import Derived.Deep.LoopGhost
import Derived.OpenShut
namespace Go.Proofs.Ytgbfgjhaglmklaa.lawDiskStays
open Go.RowKit DiskMath PackMath

set_option maxRecDepth 100000 in
set_option maxHeartbeats 1600000 in
theorem core (H : DiskHave) (room : Int) (hr : IsI64 room) (A : Option Addr) (n c : Nat) (ds : List Deed) (keep : Int) (hk : IsI64 keep) (hn : n ≤ maxLen) (hkeep : ∀ d ∈ ds, IsI64 d.keep) (hsum : ∀ k, k ≤ ds.length → k ≤ 200 → broughtBy ds k ≤ H.most) (w : World) (h : DeedsIn w w.heap.size A n ds) :
    Calls Try.prog 4 #[.int .i64 room, .slice A n c, .int .i64 keep] w fun e w' => e = .returned (.bool true) ∧ Below w.heap.size w w' := by
  have hml := H.most_le
  have hl := h.1
  have HX := Lib.hid h
  have HL := Lib.hid hl
  have HK := Lib.hid hkeep
  have HS := Lib.hid hsum
  have HR := Lib.hid hr
  have HKK := Lib.hid hk
  have HML := Lib.hid hml
  unfold maxLen at hn
  clear h hl hkeep hsum hr hk hml
  go_enter Try.func4, Try.ntmps4
  go_wp2_with fail
  refine (H.shown _).mono ?_
  rintro e w1 ⟨rfl, hb1⟩
  go_wp2_with fail
  refine (Disk1.new (H := H) hb1 room HR.out).mono ?_
  rintro e w2 ⟨a, rfl, d2⟩
  have D2 := Lib.hid d2
  clear d2 hb1
  go_wp2_with fail
  go_loopg [9] 201 (fun gk i wr => ∃ (k : Nat) (x : Dsk), i = .int .i64 (k : Int) ∧ gk + k = 201 ∧ k ≤ n ∧ k ≤ 200 ∧ Hid (Disk1 H w wr a x) ∧ Hid (x.safe.size + x.rest.size ≤ broughtBy ds k))
  case atStart => exact ⟨0, newD room, rfl, by omega, by omega, by omega, D2.out, by rw [brought_zero]; unfold newD; exact Nat.le_refl _⟩
  case round =>
    obtain ⟨k, x, rfl, hgk, hk, hk2, hD, hZ⟩ := hrel
    have HG := Lib.hid hgk
    clear hgk
    by_cases hlt : k < n ∧ k < 200
    · obtain ⟨l1, l2⟩ := hlt
      obtain ⟨g, o, rfl, hg, hcell⟩ := HX.out.2 (by omega)
      have lk : k < ds.length := by have := HL.out; omega
      obtain ⟨e0, e1, e2⟩ := hcell k lk
      have hB := hD.out.2
      have d0 : wr.cell? ⟨g, o + k * 3, none⟩ = some (.int .i64 ds[k].kind) := (hB.cell (p := ⟨g, o + k * 3, none⟩) hg).trans e0
      have d1 : wr.cell? ⟨g, o + k * 3 + 1, none⟩ = some (.int .i64 ds[k].keep) := (hB.cell (p := ⟨g, o + k * 3 + 1, none⟩) hg).trans e1
      have d2 : wr.cell? ⟨g, o + k * 3 + 2, none⟩ = some (.string ds[k].s) := (hB.cell (p := ⟨g, o + k * 3 + 2, none⟩) hg).trans e2
      have hbr := brought_succ ds lk
      have hle := HS.out (k + 1) (by omega) (by omega)
      have hkp := HK.out _ (List.getElem_mem lk)
      have hz := hZ.out
      obtain ⟨t, ht⟩ : ∃ t, t = ds[k] := ⟨_, rfl⟩
      rw [← ht] at d0 d1 d2 hbr hkp
      have hi0 : (0 : Int) ≤ (k : Int) := by omega
      have hi1 : (k : Int) < (n : Int) := by omega
      have HSZ : Hid (x.safe.size + x.rest.size + t.s.size ≤ broughtBy ds (k + 1) ∧ broughtBy ds (k + 1) ≤ H.most) := ⟨by omega, hle⟩
      have HKP := Lib.hid hkp
      clear hcell e0 e1 e2 hbr hle hkp hz ht hB
      have hcase : ((t.kind == 0) = true) ∨ ((t.kind == 0) = false ∧ (t.kind == 1) = true) ∨ ((t.kind == 0) = false ∧ (t.kind == 1) = false ∧ (t.kind == 2) = true) ∨ ((t.kind == 0) = false ∧ (t.kind == 1) = false ∧ (t.kind == 2) = false) := by
        simp only [beq_eq_false_iff_ne, beq_iff_eq, ne_eq]
        omega
      rcases hcase with c0 | ⟨c0, c1⟩ | ⟨c0, c1, c2⟩ | ⟨c0, c1, c2⟩
      · go_wp2_with fail
        refine (hD.out.append t.s (by have := HSZ.out; omega)).mono ?_
        rintro e w3 ⟨rfl, q⟩
        have Q := Lib.hid q
        clear q d0 d1 d2
        go_wp2_with fail
        go_roundg (gk - 1)
        case measure => have := HG.out; omega
        case rel => exact ⟨k + 1, appD x t.s, by go_num, by have := HG.out; omega, by omega, by omega, Q.out, Nat.le_trans (log_append x t.s) HSZ.out.1⟩
      · go_wp2_with fail
        refine hD.out.sync.mono ?_
        rintro e w3 ⟨rfl, q⟩
        have Q := Lib.hid q
        clear q d0 d1 d2
        go_wp2_with fail
        go_roundg (gk - 1)
        case measure => have := HG.out; omega
        case rel => exact ⟨k + 1, syncD x, by go_num, by have := HG.out; omega, by omega, by omega, Q.out, Nat.le_trans (log_sync x) (by have := HSZ.out; omega)⟩
      · go_wp2_with fail
        refine (hD.out.switch t.s (by have := HSZ.out; have := HML.out; omega)).mono ?_
        rintro e w3 ⟨rfl, q⟩
        have Q := Lib.hid q
        clear q d0 d1 d2
        go_wp2_with fail
        go_roundg (gk - 1)
        case measure => have := HG.out; omega
        case rel => exact ⟨k + 1, swD x t.s, by go_num, by have := HG.out; omega, by omega, by omega, Q.out, Nat.le_trans (log_switch x t.s) (by have := HSZ.out; omega)⟩
      · go_wp2_with fail
        refine (hD.out.crash t.keep HKP.out (by have := HSZ.out; omega)).mono ?_
        rintro e w3 ⟨rfl, q⟩
        have Q := Lib.hid q
        clear q d0 d1 d2
        go_wp2_with fail
        go_roundg (gk - 1)
        case measure => have := HG.out; omega
        case rel => exact ⟨k + 1, crashD x t.keep, by go_num, by have := HG.out; omega, by omega, by omega, Q.out, Nat.le_trans (log_crash x t.keep) (by have := HSZ.out; omega)⟩
    · have hsz : x.safe.size + x.rest.size ≤ H.most := Nat.le_trans hZ.out (HS.out k (by have := HL.out; omega) hk2)
      have HSZ := Lib.hid hsz
      have hcase : ¬ (k : Int) < (n : Int) ∨ ((k : Int) < (n : Int) ∧ ¬ (k : Int) < 200) := by omega
      have hok := hD.out.ok
      have hf0 : 0 ≤ x.free := hok.2.2
      obtain ⟨l, hl⟩ : ∃ l, l = x.safe ++ x.rest := ⟨_, rfl⟩
      obtain ⟨q, hq⟩ : ∃ q, q = x.safe ++ x.rest.extract 0 keep.toNat := ⟨_, rfl⟩
      have hls : l.size = x.safe.size + x.rest.size := by rw [hl, ByteArray.size_append]
      have hqs : q.size = x.safe.size + min keep.toNat x.rest.size := by rw [hq, ByteArray.size_append, ByteArray.size_extract]; omega
      have hx1 : crashD x keep = ⟨x.room, x.snap, q, ⟨#[]⟩⟩ := by unfold crashD; rw [hq]
      have B1 : Hid (∀ W : World, Calls Try.prog 25 #[.string l, .string q] W fun e w' => e = .returned (.bool true) ∧ W = w') := fun W => begins_yes l q (by rw [hl, hq]; exact begin_part _ _ _) (by omega) W
      have hpre : l.extract 0 x.safe.size = x.safe := by rw [hl]; exact begin_self _ _
      have B2 : Hid (∀ W : World, Calls Try.prog 25 #[.string q, .string (l.extract 0 x.safe.size)] W fun e w' => e = .returned (.bool true) ∧ W = w') := fun W => by
        rw [hpre]
        exact begins_yes q x.safe (by rw [hq]; exact begin_self _ _) (by omega) W
      have g1 : (x.safe.size : Int) ≤ (l.size : Int) := by omega
      have g2 : (l.size : Int) ≤ 9223372036854775807 := by have := HML.out; omega
      have g3 : (x.safe.size : Int) ≤ 9223372036854775807 := by omega
      have g4 : (q.size : Int) ≤ 9223372036854775807 := by omega
      have hcase2 : (keep < 0 ∧ x.safe.size < l.size ∧ (x.safe.size : Int) < (l.size : Int) ∧ ((q.size : Int) == (x.safe.size : Int)) = true ∧ q.size = x.safe.size) ∨
          (keep < 0 ∧ ¬ x.safe.size < l.size ∧ ¬ (x.safe.size : Int) < (l.size : Int) ∧ ((q.size : Int) == (x.safe.size : Int) + ((l.size : Int) - (x.safe.size : Int))) = true ∧ q.size = l.size) ∨
          (¬ keep < 0 ∧ ¬ keep < (l.size : Int) - (x.safe.size : Int) ∧ True ∧ ((q.size : Int) == (x.safe.size : Int) + ((l.size : Int) - (x.safe.size : Int))) = true ∧ q.size = l.size) ∨
          (¬ keep < 0 ∧ keep < (l.size : Int) - (x.safe.size : Int) ∧ True ∧ ((q.size : Int) == (x.safe.size : Int) + keep) = true ∧ True) := by
        simp only [beq_iff_eq, and_true, true_and]
        omega
      have HLL := Lib.hid hl
      have X1 := Lib.hid hx1
      have HQS : Hid (q.size ≤ H.most) := by show q.size ≤ H.most; omega
      clear hsz hlt hok hl hq hls hqs hx1 hpre
      have HC2 := Lib.hid hcase2
      clear hcase2
      rcases hcase with c0 | ⟨c0, c1⟩
      all_goals
        go_wp2_with fail
        refine (hD.out.log HSZ.out).mono ?_
        rw [← HLL.out]
        rintro e w3 ⟨rfl, d⟩
        have D3 := Lib.hid d
        clear d
        go_wp2_with fail
        refine (D3.out.snap HSZ.out).mono ?_
        rintro e w4 ⟨rfl, d⟩
        have D4 := Lib.hid d
        clear d D3
        go_wp2_with fail
        refine (D4.out.synced HSZ.out).mono ?_
        rintro e w5 ⟨rfl, d⟩
        have D5 := Lib.hid d
        clear d D4
        go_wp2_with fail
        refine (D5.out.free HSZ.out).mono ?_
        rintro e w6 ⟨rfl, d⟩
        have D6 := Lib.hid d
        clear d D5
        go_wp2_with fail
        refine (D6.out.crash keep HKK.out HSZ.out).mono ?_
        rw [X1.out]
        rintro e w7 ⟨rfl, d⟩
        have D7 := Lib.hid d
        clear d D6
        go_wp2_with fail
        refine (D7.out.log HQS.out).mono ?_
        simp only [app_nil]
        rintro e w8 ⟨rfl, d⟩
        have D8 := Lib.hid d
        clear d D7
        rcases HC2.out with ⟨m1, m2, m3, m4, m5⟩ | ⟨m1, m2, m3, m4, m5⟩ | ⟨m1, m2, m3, m4, m5⟩ | ⟨m1, m2, m3, m4, m5⟩
      all_goals
        have M5 := Lib.hid m5
        clear m5
        go_wp2_with fail
        refine (B1.out _).mono ?_
        rintro e w9 ⟨rfl, rfl⟩
        go_wp2_with fail
        refine (B2.out _).mono ?_
        rintro e w10 ⟨rfl, rfl⟩
        go_wp2_with fail
        refine (D8.out.synced HQS.out).mono ?_
        rintro e w11 ⟨rfl, d⟩
        have D9 := Lib.hid d
        clear d D8
        go_wp2_with fail
        refine (D9.out.snap HQS.out).mono ?_
        rintro e w12 ⟨rfl, d⟩
        have hB := d.2
        clear d D9
        go_wp2_with fail
        go_ret
        exact ⟨rfl, hB⟩

theorem walk0 (H : DiskHave) (room : Int) (A : Option Addr) (n c : Nat) (ds : List Deed) (keep : Int) (w : World) (hsum : ∀ k, k ≤ ds.length → k ≤ 200 → broughtBy ds k ≤ H.most) (hr : (Lit.int .i64 room).wf = true) (hk : (Lit.int .i64 keep).wf = true) (hnc : n ≤ c) (hc : c ≤ maxLen) (hds : ∀ x ∈ ds, IsI64 x.keep ∧ x.s.size ≤ maxLen) (h : DeedsIn w w.heap.size A n ds) :
    Calls Try.prog 4 #[.int .i64 room, .slice A n c, .int .i64 keep] w fun e w' => e = .returned (.bool true) ∧ Below w.heap.size w w' :=
  core H room (bounds_i64 hr) A n c ds keep (bounds_i64 hk) (Nat.le_trans hnc hc) (fun d hd => (hds d hd).1) hsum w h

end Go.Proofs.Ytgbfgjhaglmklaa.lawDiskStays
