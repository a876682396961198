/-
  The walk of the document's own gone: a graph without an entry, and without its inode, if that was the last one.
-/
import Derived.Test.YtlhdbccemgofjaaGreatDoorApplyRefCZ
namespace Go.Proofs.YtlhdbccemgofjaaGreatDoor
open Go.RowKit StampMath GraphMath OpMath

set_option maxRecDepth 100000 in
set_option maxHeartbeats 1600000 in
theorem refGone (N : Nat → Prop) (v : Value) (g : Gr) (at' : St) (nm : ByteArray) (hg : g.ok) (w : World) (hv : GrAt N w v g) :
    Calls Tryz.prog 43 #[v, .agg (stA at'), .string nm] w (G1Post N (goneG g at' nm) w) := by
  obtain ⟨A, n, c, A', m, d, rfl⟩ := hv.form
  have hbox : Below w.heap.size w (((w.alloc (.cells #[.slice A n c, .slice A' m d] 30)).alloc (.cells #[.int .i64 at'.1, .int .i64 at'.2] 35)).alloc (.cells #[.slice none 0 0, .slice none 0 0] 30)) := (((Below.refl w.heap.size w).alloc (by simp <;> omega) _).alloc (by simp <;> omega) _).alloc (by simp <;> omega) _
  have hv2 := hv.live.step (N' := fun i => N i ∧ i < w.heap.size) hbox
  have hx := heap_alloc_new ((w.alloc (.cells #[.slice A n c, .slice A' m d] 30)).alloc (.cells #[.int .i64 at'.1, .int .i64 at'.2] 35)) (.cells #[.slice none 0 0, .slice none 0 0] 30)
  rw [World.size_alloc, World.size_alloc] at hx
  have HC := Lib.hid (refUntie (fun i => N i ∧ i < w.heap.size) _ g at' nm hg.lenE _ hv2)
  have hok := hg.untie at' nm
  have hgone : goneG g at' nm = if linksE (untieG g at' nm).1.E (untieG g at' nm).2.1 = 0 then (dropG (untieG g at' nm).1 (untieG g at' nm).2.1).1 else (untieG g at' nm).1 := rfl
  unfold UntPost at HC
  generalize goneG g at' nm = r at hgone ⊢
  generalize (untieG g at' nm).1 = u at HC hok hgone
  generalize (untieG g at' nm).2.1 = id at HC hgone
  generalize (untieG g at' nm).2.2 = er at HC
  have HG := Lib.hid hgone
  have HX := Lib.hid hx
  have HB := Lib.hid hbox
  have HOK := Lib.hid hok
  clear hv hv2 hg hx hbox hgone hok
  unfold stA at HC ⊢
  go_enter Tryz.func43, Tryz.ntmps43
  go_wp2_with fail
  refine HC.out.mono ?_
  rintro e w1 ⟨v, rfl, q, hb1⟩
  obtain ⟨B, k, l, B', k', l', rfl⟩ := q.form
  have Q := Lib.hid q
  have HB1 := Lib.hid hb1
  clear HC q hb1
  go_upto_region 2 with fail
  have hsz : ((((w.alloc (.cells #[.slice A n c, .slice A' m d] 30)).alloc (.cells #[.int .i64 at'.1, .int .i64 at'.2] 35)).alloc (.cells #[.slice none 0 0, .slice none 0 0] 30))).heap.size = w.heap.size + 1 + 1 + 1 := by simp only [World.size_alloc]
  generalize ((w.alloc (.cells #[.slice A n c, .slice A' m d] 30)).alloc (.cells #[.int .i64 at'.1, .int .i64 at'.2] 35)).alloc (.cells #[.slice none 0 0, .slice none 0 0] 30) = w0 at hsz HB1 Q HX HB
  have hx1 := (HB1.out.block _ (heap_lt HX.out)).trans HX.out
  have hB1 := below_step HB.out HB1.out
  have hbl : w.heap.size + 1 + 1 < w1.heap.size := heap_lt hx1
  have h01 := HB1.out.size
  have hA := ((Below.refl w1.heap.size w1).alloc (Nat.le_refl _) (.cells #[.slice B k l, .slice B' k' l'] 30)).alloc (by simp) (.cells #[.int .i64 id.1, .int .i64 id.2] 35)
  have ho := (heap_alloc_old _ (.cells #[.int .i64 id.1, .int .i64 id.2] 35) (heap_lt (heap_alloc_new w1 (.cells #[.slice B k l, .slice B' k' l'] 30)))).trans (heap_alloc_new w1 (.cells #[.slice B k l, .slice B' k' l'] 30))
  have hi := heap_alloc_new (w1.alloc (.cells #[.slice B k l, .slice B' k' l'] 30)) (.cells #[.int .i64 id.1, .int .i64 id.2] 35)
  rw [World.size_alloc] at hi
  have hr := (hA.block _ (heap_lt hx1)).trans hx1
  have q2 := Q.out.live.step (N' := fun i => MoreN (fun i => N i ∧ i < w.heap.size) w0 i ∧ i < w1.heap.size) hA
  have hB2 := hB1.trans (hA.mono (by omega))
  generalize (w1.alloc (.cells #[.slice B k l, .slice B' k' l'] 30)).alloc (.cells #[.int .i64 id.1, .int .i64 id.2] 35) = w2 at ho hi hr q2 hB2 ⊢
  clear hA hx1 hB1 Q HB1 HX HB
  generalize w1.heap.size = b1 at ho hi q2 hbl h01 ⊢
  obtain ⟨o0, o1⟩ := two_cells ho
  obtain ⟨i0, i1⟩ := two_cells hi
  obtain ⟨r0, r1⟩ := two_cells hr
  obtain ⟨s0, s1⟩ := two_free hr
  obtain ⟨t0, t1⟩ := two_free ho
  have HL : Hid (Calls Tryz.prog 81 #[.agg #[.slice B k l, .slice B' k' l'], .agg #[.int .i64 id.1, .int .i64 id.2]] w2 fun e w' => e = .returned (.int .i64 (linksE u.E id : Nat)) ∧ Below w2.heap.size w2 w') := by
    obtain ⟨A1, n1, c1, A2, m2, d2, e, _, _, hE, _⟩ := q2
    simp only [Value.agg.injEq, Array.mk.injEq, List.cons.injEq, Value.slice.injEq, and_true] at e
    obtain ⟨⟨rfl, rfl, rfl⟩, rfl, rfl, rfl⟩ := e
    exact refLinks _ B' k' l' u.E id (by have := HOK.out.lenE; have := hE.len; omega) w2 hE
  have Q2 := Lib.hid q2
  have HB2 := Lib.hid hB2
  have HR := Lib.hid hr
  have HO := Lib.hid ho
  have HI := Lib.hid hi
  clear q2 hB2 hr ho hi
  go_wp2_with fail
  refine HL.out.mono ?_
  rintro e w3 ⟨rfl, hb3⟩
  have hr3 := (hb3.block _ (heap_lt HR.out)).trans HR.out
  have ho3 := (hb3.block _ (heap_lt HO.out)).trans HO.out
  have hi3 := (hb3.block _ (heap_lt HI.out)).trans HI.out
  have q3 := Q2.out.step (N' := fun i => MoreN (fun i => N i ∧ i < w.heap.size) w0 i ∧ i < b1) hb3
  have hB3 := below_step HB2.out hb3
  clear o0 o1 i0 i1 r0 r1 s0 s1 t0 t1 HL Q2 HB2 HR HO HI hb3
  obtain ⟨o0, o1⟩ := two_cells ho3
  obtain ⟨i0, i1⟩ := two_cells hi3
  obtain ⟨r0, r1⟩ := two_cells hr3
  obtain ⟨s0, s1⟩ := two_free hr3
  obtain ⟨t0, t1⟩ := two_free ho3
  have hbs : b1 < w3.heap.size := heap_lt ho3
  have HBS := Lib.hid (And.intro hbl (And.intro h01 (And.intro hsz hbs)))
  by_cases h0 : linksE u.E id = 0
  · have hz : (((linksE u.E id : Nat) : Int) == 0) = true := by rw [h0]; rfl
    have HG2 : Hid (r = (dropG u id).1) := HG.out.trans (if_pos h0)
    have HD := Lib.hid (refDrop _ _ u id HOK.out.lenI HOK.out.lenE w3 q3)
    unfold GrPost at HD
    unfold stA at HD
    have HR := Lib.hid hr3
    have HO := Lib.hid ho3
    have HB3 := Lib.hid hB3
    clear h0 q3 hB3 hr3 ho3 hi3 HG hsz
    go_wp2_with fail
    refine HD.out.mono ?_
    rintro e w4 ⟨v4, rfl, q4, hb4⟩
    obtain ⟨C, j, p, C', j', p', rfl⟩ := q4.form
    have hr4 := (hb4.block _ (heap_lt HR.out)).trans HR.out
    have ho4 := (hb4.block _ (heap_lt HO.out)).trans HO.out
    have Q4 := Lib.hid q4
    have HB4 := Lib.hid (below_step HB3.out hb4)
    clear o0 o1 i0 i1 r0 r1 s0 s1 t0 t1 HD q4 hb4 HR HO
    obtain ⟨o0, o1⟩ := two_cells ho4
    obtain ⟨r0, r1⟩ := two_cells hr4
    obtain ⟨s0, s1⟩ := two_free hr4
    obtain ⟨t0, t1⟩ := two_free ho4
    go_wp2_with fail
    obtain ⟨z1, z2, z3, z4⟩ := HBS.out
    refine bodyPost_ret (v := .agg #[.slice C j p, .slice C' j' p']) (by simp [results, Tryz.results43, go_sem, r0, r1]) rfl ⟨_, _, _, _, _, _, rfl, ?_, ?_⟩
    · rw [HG2.out]
      refine Q4.out.keep (fun i hi => ?_) (by simp) (fun i hi => ?_)
      · have hne : i ≠ b1 ∧ i ≠ w.heap.size + 1 + 1 := by
          rcases hi with hi | hi
          · rcases hi with ⟨hi | hi, hi2⟩
            · exact ⟨by omega, by have := hi.2; omega⟩
            · exact ⟨by omega, by omega⟩
          · exact ⟨by omega, by omega⟩
        rw [heap_setCell_other _ _ _ _ hne.2, heap_setCell_other _ _ _ _ hne.2, heap_setCell_other _ _ _ _ hne.1, heap_setCell_other _ _ _ _ hne.1]
      · rcases hi with hi | hi
        · rcases hi with ⟨hi | hi, _⟩
          · exact .inl hi.1
          · exact .inr (by omega)
        · exact .inr (Nat.le_trans HB3.out.size hi)
    · exact (((HB4.out.setCell (p := ⟨b1, 0, none⟩) (by dsimp only; omega) _).setCell (p := ⟨b1, 1, none⟩) (by dsimp only; omega) _).setCell (p := ⟨w.heap.size + 1 + 1, 0, none⟩) (by dsimp only; omega) _).setCell (p := ⟨w.heap.size + 1 + 1, 1, none⟩) (by dsimp only; omega) _
  · have hz : (((linksE u.E id : Nat) : Int) == 0) = false := by rw [beq_eq_false_iff_ne]; omega
    have HG2 : Hid (r = u) := HG.out.trans (if_neg h0)
    have Q3 := Lib.hid q3
    have HB3 := Lib.hid hB3
    clear h0 q3 hB3 HG hsz
    go_wp2_with fail
    obtain ⟨z1, z2, z3, z4⟩ := HBS.out
    refine bodyPost_ret (v := .agg #[.slice B k l, .slice B' k' l']) (by simp [results, Tryz.results43, go_sem, r0, r1]) rfl ⟨_, _, _, _, _, _, rfl, ?_, ?_⟩
    · rw [HG2.out]
      refine Q3.out.keep (fun i hi => ?_) (by simp) (fun i hi => ?_)
      · have hne : i ≠ w.heap.size + 1 + 1 := by
          rcases hi with ⟨hi | hi, _⟩
          · have := hi.2; omega
          · omega
        rw [heap_setCell_other _ _ _ _ hne, heap_setCell_other _ _ _ _ hne]
      · rcases hi with ⟨hi | hi, _⟩
        · exact .inl hi.1
        · exact .inr (by omega)
    · exact (HB3.out.setCell (p := ⟨w.heap.size + 1 + 1, 0, none⟩) (by dsimp only; omega) _).setCell (p := ⟨w.heap.size + 1 + 1, 1, none⟩) (by dsimp only; omega) _

end Go.Proofs.YtlhdbccemgofjaaGreatDoor
