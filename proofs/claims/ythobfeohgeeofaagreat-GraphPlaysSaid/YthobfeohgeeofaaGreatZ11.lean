/-
  The landed graph's Copy: two maps cloned.
-/
import Derived.Test.YthobfeohgeeofaaGreatZ09
import Derived.Test.YthobfeohgeeofaaGreatZ10
import Derived.Test.YthobfeohgeeofaaGreatZ09
import Derived.Test.YthobfeohgeeofaaGreatZ00
import Derived.Deep.RegionWith
import Derived.Test.YthobfeohgeeofaaGreatRows
import Derived.ProofKit
import Derived.OpenShut
import Derived.Deep.Slices
import Derived.Deep.Strs
import Derived.ChangeSame
import Derived.Test.YthobfeohgeeofaaGreatZ04
namespace Go.Proofs.YthobfeohgeeofaaGreat
open Go.RowKit StampMath GraphMath

theorem cloneI_code (b : Nat) (L : List (St × Ino)) (w : World) (h : KMap stV inoV w b L) :
    Calls Tryz.prog 14 #[.map (some b)] w fun e w' => e = .returned (.map (some w.heap.size)) ∧ KMap stV inoV w' w.heap.size L ∧ Below w.heap.size w w' ∧ w'.heap.size = w.heap.size + 1 :=
  h.clone Tryz.cloneIno

theorem cloneE_code (b : Nat) (L : List ((St × ByteArray) × St)) (w : World) (h : KMap plV stV w b L) :
    Calls Tryz.prog 15 #[.map (some b)] w fun e w' => e = .returned (.map (some w.heap.size)) ∧ KMap plV stV w' w.heap.size L ∧ Below w.heap.size w w' ∧ w'.heap.size = w.heap.size + 1 :=
  h.clone Tryz.cloneEnt

set_option maxRecDepth 100000 in
set_option maxHeartbeats 1600000 in
theorem copy_code (a : Addr) (S : Nat → Prop) (g : Gr) (w : World) (h : GIn w S a g) :
    Calls Tryz.prog 7 #[.pointer (some a)] w fun e w' => ∃ b T, e = .returned (.pointer (some b)) ∧ GIn w' T b g ∧ (∀ i, T i → w.heap.size ≤ i) ∧ Below w.heap.size w w' := by
  obtain ⟨b, bi, be, rfl, h1, h2, h3, hb, hi, he, hS⟩ := h
  obtain ⟨d0, d1⟩ := two_cells hb
  have hlt := heap_lt hb
  have HI : Hid (∀ W : World, Below w.heap.size w W → Calls Tryz.prog 14 #[.map (some bi)] W fun e w' => e = .returned (.map (some W.heap.size)) ∧ KMap stV inoV w' W.heap.size (pairsI g) ∧ Below W.heap.size W w' ∧ w'.heap.size = W.heap.size + 1) := fun W hW => cloneI_code bi _ W (hi.kept (hW.block bi hi.lt))
  have HE : Hid (∀ W : World, Below w.heap.size w W → Calls Tryz.prog 15 #[.map (some be)] W fun e w' => e = .returned (.map (some W.heap.size)) ∧ KMap plV stV w' W.heap.size (pairsE g) ∧ Below W.heap.size W w' ∧ w'.heap.size = W.heap.size + 1) := fun W hW => cloneE_code be _ W (he.kept (hW.block be he.lt))
  clear hi he hS hb
  go_enter Tryz.func7, Tryz.ntmps7
  go_wp2_with fail
  go_region_with (first
    | (go_at_call 14; (with_reducible refine (HI.out _ (by repeat (first | exact Below.refl _ _ | assumption | apply Below.drew | refine below_step ?_ (by assumption)))).mono ?_); rintro z w1 ⟨rfl, hm1, hb1, hs1⟩; have HM1 := Lib.hid hm1; have HS1 := Lib.hid hs1; clear hm1 hs1; have d0 := cell_later hb1 d0; have d1 := cell_later hb1 d1)
    | (go_at_call 15; (with_reducible refine (HE.out _ (by repeat (first | exact Below.refl _ _ | assumption | apply Below.drew | refine below_step ?_ (by assumption)))).mono ?_); rintro z w2 ⟨rfl, hm2, hb2, hs2⟩; have HM2 := Lib.hid hm2; have HS2 := Lib.hid hs2; clear hm2 hs2; have d0 := cell_later hb2 d0; have d1 := cell_later hb2 d1))
  all_goals
    go_wp2_with fail
    go_ret
    have e1 : w1.heap.size = w.heap.size + 1 := HS1.out
    have e2 : w2.heap.size = w1.heap.size + 1 := HS2.out
    have hb3 : Below w.heap.size w w2 := below_step (below_step (Below.refl w.heap.size w).drew hb1) hb2
    refine ⟨⟨w2.heap.size, 0, none⟩, fun i => i = w2.heap.size ∨ i = w.heap.size ∨ i = w1.heap.size, rfl, ⟨w2.heap.size, w.heap.size, w1.heap.size, rfl, by omega, by omega, by omega, heap_alloc_new _ _, ?_, ?_, fun i => Iff.rfl⟩, fun i hi => by omega, hb3.alloc hb3.size _⟩
    · have hk : KMap stV inoV w1 w.heap.size (pairsI g) := HM1.out
      exact (hk.kept (hb2.block _ (by omega))).kept (heap_alloc_old _ _ (by omega))
    · exact HM2.out.kept (heap_alloc_old _ _ (by omega))

end Go.Proofs.YthobfeohgeeofaaGreat

/-
  The landed graph: what is asked of a nil graph; all contracts in one.
-/
namespace Go.Proofs.YthobfeohgeeofaaGreat
open Go.RowKit StampMath GraphMath OpMath

set_option maxRecDepth 100000 in
theorem nil_get (id : St) (w : World) : Calls Tryz.prog 30 #[.pointer none, .agg (stA id)] w fun e w' => e = .returned (.tuple #[.agg (inoA noIno), .bool false]) ∧ Below w.heap.size w w' := by
  unfold stA
  go_enter Tryz.func30, Tryz.ntmps30
  go_wp2_with fail
  exact bodyPost_ret (v := .tuple #[.agg (inoA noIno), .bool false]) (by simp [results, Tryz.results30, go_sem, inoA, noIno]) rfl ⟨rfl, by
    repeat (first | exact Below.refl _ _ | apply Below.drew | refine Below.alloc ?_ (by simp <;> omega) _)⟩

set_option maxRecDepth 100000 in
theorem nil_look (d : St) (nm : ByteArray) (w : World) : Calls Tryz.prog 34 #[.pointer none, .agg (stA d), .string nm] w fun e w' => e = .returned (.tuple #[.agg (stA (0, 0)), .bool false]) ∧ Below w.heap.size w w' := by
  unfold stA
  go_enter Tryz.func34, Tryz.ntmps34
  go_wp2_with fail
  exact bodyPost_ret (v := .tuple #[.agg (stA (0, 0)), .bool false]) (by simp [results, Tryz.results34, go_sem, stA]) rfl ⟨rfl, by
    repeat (first | exact Below.refl _ _ | apply Below.drew | refine Below.alloc ?_ (by simp <;> omega) _)⟩

theorem nil_inodes (w : World) : Calls Tryz.prog 25 #[.pointer none] w (InosNew [] w) := by
  go_enter Tryz.func25, Tryz.ntmps25
  go_wp2_with fail
  go_ret
  exact ⟨_, rfl, World.ownsRow_nil _ _ _ _, Below.refl _ _⟩

theorem nil_sorted (w : World) : Calls Tryz.prog 47 #[.pointer none, .func (.func 48) #[] #[]] w (EntsNew [] w) := by
  go_enter Tryz.func47, Tryz.ntmps47
  go_wp2_with fail
  go_ret
  exact ⟨_, rfl, World.ownsRow_nil _ _ _ _, Below.refl _ _⟩

theorem nil_entries (w : World) : Calls Tryz.prog 28 #[.pointer none] w (EntsNew [] w) := by
  have HS := Lib.hid (nil_sorted w)
  go_enter Tryz.func28, Tryz.ntmps28
  go_wp2_with fail
  refine (HS.out).mono ?_
  rintro e w1 ⟨v, rfl, hown, hb⟩
  go_wp2_with fail
  go_ret
  exact ⟨v, rfl, hown, hb⟩

theorem nil_copy (w : World) : Calls Tryz.prog 7 #[.pointer none] w fun e w' => e = .returned (.pointer none) ∧ Below w.heap.size w w' := by
  go_enter Tryz.func7, Tryz.ntmps7
  go_wp2_with fail
  go_ret
  exact ⟨rfl, Below.refl _ _⟩

theorem nil_make (w : World) : Calls Tryz.prog 11 #[.pointer none, .agg (stA (1, 0)), .int .i64 1] w fun e w' => e = .returned (.int .i64 3) ∧ Below w.heap.size w w' := by
  have HM : Hid (∀ W : World, Calls Tryz.prog 29 #[.agg #[.int .i64 1, .int .i64 0]] W fun e w' => e = .returned (.bool true) ∧ Below W.heap.size W w') := fun W => may_any 1 0 W
  have HR : Hid (∀ W : World, Calls Tryz.prog 13 #[] W fun e w' => e = .returned (.agg #[.int .i64 0, .int .i64 0]) ∧ Below W.heap.size W w') := root_any
  have HG : Hid (∀ W : World, Calls Tryz.prog 30 #[.pointer none, .agg #[.int .i64 0, .int .i64 0]] W fun e w' => e = .returned (.tuple #[.agg #[.int .i64 0, .int .i64 0, .int .i64 0, .int .i64 0, .int .i64 0, .string ⟨#[]⟩], .bool false]) ∧ Below W.heap.size W w') := fun W => nil_get (0, 0) W
  unfold stA
  go_enter Tryz.func11, Tryz.ntmps11
  go_wp2_with fail
  refine (HM.out _).mono ?_
  rintro e w1 ⟨rfl, hb1⟩
  have hb := below_step ((Below.refl w.heap.size w).alloc (Nat.le_refl _) _) hb1
  clear hb1
  go_wp2_with fail
  refine (HR.out _).mono ?_
  rintro e w2 ⟨rfl, hb2⟩
  have hb3 := below_step hb hb2
  clear hb hb2
  go_wp2_with fail
  refine (HG.out _).mono ?_
  rintro e w3 ⟨rfl, hb4⟩
  have hb5 := below_step hb3 hb4
  go_wp2_with fail
  go_ret
  exact ⟨rfl, hb5.alloc hb5.size _⟩

theorem nil_drop (id : St) (w : World) : Calls Tryz.prog 17 #[.pointer none, .agg (stA id)] w fun e w' => e = .returned (.int .i64 3) ∧ Below w.heap.size w w' := by
  have HG : Hid (∀ W : World, Calls Tryz.prog 30 #[.pointer none, .agg #[.int .i64 id.1, .int .i64 id.2]] W fun e w' => e = .returned (.tuple #[.agg #[.int .i64 0, .int .i64 0, .int .i64 0, .int .i64 0, .int .i64 0, .string ⟨#[]⟩], .bool false]) ∧ Below W.heap.size W w') := fun W => nil_get id W
  unfold stA
  go_enter Tryz.func17, Tryz.ntmps17
  go_wp2_with fail
  refine (HG.out _).mono ?_
  rintro e w1 ⟨rfl, hb1⟩
  have hb := below_step ((Below.refl w.heap.size w).alloc (Nat.le_refl _) _) hb1
  go_wp2_with fail
  go_ret
  exact ⟨rfl, hb.alloc hb.size _⟩

theorem nil_set (id : St) (w : World) : Calls Tryz.prog 18 #[.pointer none, .agg (stA id), .int .i64 1, .string ⟨#[]⟩] w fun e w' => e = .returned (.int .i64 3) ∧ Below w.heap.size w w' := by
  have HG : Hid (∀ W : World, Calls Tryz.prog 30 #[.pointer none, .agg #[.int .i64 id.1, .int .i64 id.2]] W fun e w' => e = .returned (.tuple #[.agg #[.int .i64 0, .int .i64 0, .int .i64 0, .int .i64 0, .int .i64 0, .string ⟨#[]⟩], .bool false]) ∧ Below W.heap.size W w') := fun W => nil_get id W
  unfold stA
  go_enter Tryz.func18, Tryz.ntmps18
  go_wp2_with fail
  refine (HG.out _).mono ?_
  rintro e w1 ⟨rfl, hb1⟩
  have hb := below_step ((Below.refl w.heap.size w).alloc (Nat.le_refl _) _) hb1
  go_wp2_with fail
  go_ret
  exact ⟨rfl, hb.alloc hb.size _⟩

theorem nil_mayTie (w : World) : Calls Tryz.prog 31 #[.pointer none, .agg (entA ⟨(0, 0), ⟨#[97]⟩, (0, 0)⟩)] w fun e w' => e = .returned (.int .i64 3) ∧ Below w.heap.size w w' := by
  have HN : Hid (∀ W : World, Calls Tryz.prog 50 #[.string ⟨#[97]⟩] W fun e w' => e = .returned (.bool true) ∧ W = w') := fun W => by
    have := name_any ⟨#[97]⟩ (by decide) W
    rwa [show nameB ⟨#[97]⟩ = true by decide +kernel] at this
  have HG : Hid (∀ W : World, Calls Tryz.prog 30 #[.pointer none, .agg #[.int .i64 0, .int .i64 0]] W fun e w' => e = .returned (.tuple #[.agg #[.int .i64 0, .int .i64 0, .int .i64 0, .int .i64 0, .int .i64 0, .string ⟨#[]⟩], .bool false]) ∧ Below W.heap.size W w') := fun W => nil_get (0, 0) W
  obtain ⟨nm, hnm⟩ : ∃ nm : ByteArray, nm = ⟨#[97]⟩ := ⟨_, rfl⟩
  rw [← hnm] at HN ⊢
  clear hnm
  have he0 := heap_alloc_new w (.cells (entA ⟨(0, 0), nm, (0, 0)⟩) 36)
  have hb0 : Below w.heap.size w (w.alloc (.cells (entA ⟨(0, 0), nm, (0, 0)⟩) 36)) := (Below.refl _ _).alloc (Nat.le_refl _) _
  unfold entA at he0 hb0 ⊢
  go_enter Tryz.func31, Tryz.ntmps31
  go_wp2_with fail
  refine (HN.out _).mono ?_
  rintro e w1 ⟨rfl, rfl⟩
  go_wp2_with fail
  refine (HG.out _).mono ?_
  rintro e w1 ⟨rfl, hb1⟩
  have q0 := (hb1.block _ (heap_lt he0)).trans he0
  have hb2 := below_step hb0 hb1
  have hl := heap_lt q0
  go_upto_region 4 with fail
  have r0 := (heap_alloc_old w1 (.cells #[.int .i64 0, .int .i64 0, .int .i64 0, .int .i64 0, .int .i64 0, .string ⟨#[]⟩] 47) hl).trans q0
  have hb3 := hb2.alloc hb2.size (.cells #[.int .i64 0, .int .i64 0, .int .i64 0, .int .i64 0, .int .i64 0, .string ⟨#[]⟩] 47)
  generalize w1.alloc (.cells #[.int .i64 0, .int .i64 0, .int .i64 0, .int .i64 0, .int .i64 0, .string ⟨#[]⟩] 47) = w2 at r0 hb3 ⊢
  obtain ⟨e0, e1, e2, e3, e4⟩ := ent_cells (x := ⟨(0, 0), nm, (0, 0)⟩) r0
  go_wp2_with fail
  refine (HG.out _).mono ?_
  rintro e w3 ⟨rfl, hb4⟩
  have hb5 := below_step hb3 hb4
  go_wp2_with fail
  go_ret
  exact ⟨rfl, hb5.alloc hb5.size _⟩

theorem nil_tie (w : World) : Calls Tryz.prog 12 #[.pointer none, .agg (entA ⟨(0, 0), ⟨#[97]⟩, (0, 0)⟩)] w fun e w' => e = .returned (.int .i64 3) ∧ Below w.heap.size w w' := by
  have HM0 : ∀ W : World, Calls Tryz.prog 31 #[.pointer none, .agg (entA ⟨(0, 0), ⟨#[97]⟩, (0, 0)⟩)] W fun e w' => e = .returned (.int .i64 3) ∧ Below W.heap.size W w' := nil_mayTie
  obtain ⟨nm, hnm⟩ : ∃ nm : ByteArray, nm = ⟨#[97]⟩ := ⟨_, rfl⟩
  rw [← hnm] at HM0 ⊢
  clear hnm
  have he0 := heap_alloc_new w (.cells (entA ⟨(0, 0), nm, (0, 0)⟩) 36)
  have hb0 : Below w.heap.size w (w.alloc (.cells (entA ⟨(0, 0), nm, (0, 0)⟩) 36)) := (Below.refl _ _).alloc (Nat.le_refl _) _
  obtain ⟨e0, e1, e2, e3, e4⟩ := ent_cells he0
  have HM := Lib.hid HM0
  clear HM0
  unfold entA at e0 e1 e2 e3 e4 hb0 HM ⊢
  go_enter Tryz.func12, Tryz.ntmps12
  go_wp2_with fail
  refine (HM.out _).mono ?_
  rintro e w1 ⟨rfl, hb1⟩
  have hb2 := below_step hb0 hb1
  go_wp2_with fail
  go_ret
  exact ⟨rfl, hb2⟩

noncomputable def graphHave : GraphHave where
  rep := GIn
  lt := GIn.lt
  keep := GIn.keep
  new := new_code
  get := get_code
  look := fun a S g d nm w h _ _ => look_code a S g d nm w h
  list := list_code
  inodes := inodes_code
  entries := entries_code
  parent := parent_code
  under := under_code
  make := fun a S g id kind w h hg => (make_code a S g id kind w h hg).mono fun _ _ q => ⟨S, q.1, q.2.1, fun _ hi => Or.inl hi, q.2.2⟩
  tie := fun a S g x w h hg hn => (tie_code a S g x w h hg hn).mono fun _ _ q => ⟨S, q.1, q.2.1, fun _ hi => Or.inl hi, q.2.2⟩
  untie := fun a S g d nm w h hg _ => (untie_code a S g d nm w h hg).mono fun _ _ q => ⟨S, q.1, q.2.1, fun _ hi => Or.inl hi, q.2.2⟩
  drop := fun a S g id w h hg => (drop_code a S g id w h hg).mono fun _ _ q => ⟨S, q.1, q.2.1, fun _ hi => Or.inl hi, q.2.2⟩
  set := fun a S g id mode data w h hg => (set_code a S g id mode data w h hg).mono fun _ _ q => ⟨S, q.1, q.2.1, fun _ hi => Or.inl hi, q.2.2⟩
  copy := fun a S g w h _ => copy_code a S g w h
  nilGet := nil_get
  nilLook := nil_look
  nilInodes := nil_inodes
  nilEntries := nil_entries
  nilMake := nil_make
  nilTie := nil_tie
  nilDrop := nil_drop
  nilSet := nil_set
  nilCopy := nil_copy

end Go.Proofs.YthobfeohgeeofaaGreat

/-
  Arguments that are stamps or entries, opened.
-/
namespace Go.Proofs.YthobfeohgeeofaaGreat
open Go.ChangeShapes Go.WideShapes Go.RowKit StampMath GraphMath

variable {H : Type} {enc : TypeId × Value → H}

theorem st_trod {w : World} {n : Nat} {a b : Value} {y : DataW H × List MemPlace} (h : DataW.trod enc Tryz.prog w 0 (fun _ => true) true n 34 [a, b] = some y) : ∃ s : St, a = .int .i64 s.1 ∧ b = .int .i64 s.2 := by
  have h1 : Tryz.prog.cellsOf 3 = 1 := by kernel_rfl
  have h2 : Tryz.prog.cellsOf 2 = 1 := by kernel_rfl
  obtain ⟨xs, m, _, _, _, hlen, hg⟩ := DataW.trod_struct Tryz.underlying34 h
  match xs, hlen with
  | [y0, y1], _ =>
    have g0 : DataW.trod enc Tryz.prog w 0 (fun _ => true) true m 2 (([a, b].drop 0).take (Tryz.prog.cellsOf 2)) = some y0 := hg 0 _ rfl
    have g1 : DataW.trod enc Tryz.prog w 0 (fun _ => true) true m 3 (([a, b].drop 1).take (Tryz.prog.cellsOf 3)) = some y1 := hg 1 _ rfl
    rw [h2] at g0
    rw [h1] at g1
    obtain ⟨t, e0, _, _⟩ := DataW.trod_int Tryz.underlying2 g0
    obtain ⟨r, e1, _, _⟩ := DataW.trod_int Tryz.underlying3 g1
    simp at e0 e1
    exact ⟨(t, r), e0, e1⟩

theorem ent_trod {w : World} {n : Nat} {c0 c1 c2 c3 c4 : Value} {y : DataW H × List MemPlace} (h : DataW.trod enc Tryz.prog w 0 (fun _ => true) true n 36 [c0, c1, c2, c3, c4] = some y) :
    ∃ e : Ent, #[c0, c1, c2, c3, c4] = entA e ∧ e.name.size ≤ maxLen := by
  have hC2 : Tryz.prog.cellsOf 34 = 2 := by kernel_rfl
  have hC3 : Tryz.prog.cellsOf 9 = 1 := by kernel_rfl
  obtain ⟨xs, m, _, _, _, hlen, hg⟩ := DataW.trod_struct Tryz.underlying36 h
  match xs, hlen with
  | [y0, y1, y2], _ =>
    have g0 : DataW.trod enc Tryz.prog w 0 (fun _ => true) true m 34 (([c0, c1, c2, c3, c4].drop 0).take (Tryz.prog.cellsOf 34)) = some y0 := hg 0 _ rfl
    have g1 : DataW.trod enc Tryz.prog w 0 (fun _ => true) true m 9 (([c0, c1, c2, c3, c4].drop 2).take (Tryz.prog.cellsOf 9)) = some y1 := hg 1 _ rfl
    have g2 : DataW.trod enc Tryz.prog w 0 (fun _ => true) true m 34 (([c0, c1, c2, c3, c4].drop 3).take (Tryz.prog.cellsOf 34)) = some y2 := hg 2 _ rfl
    rw [hC2] at g0 g2
    rw [hC3] at g1
    obtain ⟨s, rfl, rfl⟩ := st_trod (a := c0) (b := c1) g0
    obtain ⟨nm, e2, _, w2⟩ := DataW.trod_string Tryz.underlying9 g1
    obtain ⟨t, rfl, rfl⟩ := st_trod (a := c3) (b := c4) g2
    simp at e2
    subst e2
    exact ⟨⟨s, nm, t⟩, rfl, w2⟩

set_option maxRecDepth 100000 in
theorem open_st {w : World} {v : Value} {d : DataW H} {p : List MemPlace} {r : Reach} {b0 : Nat} (hv : Value.okWide Tryz.prog w r b0 34 v) (h : DataW.Trod enc Tryz.prog w 0 (fun _ => true) true 34 v d p) :
    ∃ s : St, v = .agg (stA s) := by
  have hC : Tryz.prog.cellsOf 34 = 2 := by kernel_rfl
  obtain ⟨cs, rfl, hsz⟩ := okWide_struct Tryz.underlying34 hv
  obtain ⟨l⟩ := cs
  match l, hsz.trans hC with
  | [c0, c1], _ =>
    obtain ⟨fuel, hf⟩ := h
    obtain ⟨s, rfl, rfl⟩ := st_trod (a := c0) (b := c1) hf
    exact ⟨s, rfl⟩

set_option maxRecDepth 100000 in
theorem open_ent {w : World} {v : Value} {d : DataW H} {p : List MemPlace} {r : Reach} {b0 : Nat} (hv : Value.okWide Tryz.prog w r b0 36 v) (h : DataW.Trod enc Tryz.prog w 0 (fun _ => true) true 36 v d p) :
    ∃ e : Ent, v = .agg (entA e) ∧ e.name.size ≤ maxLen := by
  have hC : Tryz.prog.cellsOf 36 = 5 := by kernel_rfl
  obtain ⟨cs, rfl, hsz⟩ := okWide_struct Tryz.underlying36 hv
  obtain ⟨l⟩ := cs
  match l, hsz.trans hC with
  | [c0, c1, c2, c3, c4], _ =>
    obtain ⟨fuel, hf⟩ := h
    obtain ⟨e, he, hs⟩ := ent_trod (c0 := c0) (c1 := c1) (c2 := c2) (c3 := c3) (c4 := c4) hf
    exact ⟨e, by rw [← he], hs⟩

theorem cell_spot {w : World} {g o : Nat} {s : Option Nat} {v : Value} (h : w.cell? ⟨g, o, s⟩ = some v) : s = none := by
  unfold World.cell? at h
  cases hb : w.heap[g]? with
  | none => simp [hb] at h
  | some x =>
    cases x <;> simp [hb] at h
    exact h.1

end Go.Proofs.YthobfeohgeeofaaGreat

/-
  Arguments of layer 9's statements, opened: an entry, a deed, a slice of deeds.
-/
namespace Go.Proofs.YthobfeohgeeofaaGreat
open Go.ChangeShapes Go.WideShapes Go.RowKit StampMath GraphMath OpMath

variable {H : Type} {enc : TypeId × Value → H}

theorem dd_trod {w : World} {n : Nat} {c0 c1 c2 c3 c4 c5 c6 c7 c8 : Value} {y : DataW H × List MemPlace} (h : DataW.trod enc Tryz.prog w 0 (fun _ => true) true n 38 [c0, c1, c2, c3, c4, c5, c6, c7, c8] = some y) :
    ∃ d : Dd, #[c0, c1, c2, c3, c4, c5, c6, c7, c8] = ddA d ∧ d.e.name.size ≤ maxLen := by
  have hC1 : Tryz.prog.cellsOf 3 = 1 := by kernel_rfl
  have hC2 : Tryz.prog.cellsOf 36 = 5 := by kernel_rfl
  have hC3 : Tryz.prog.cellsOf 9 = 1 := by kernel_rfl
  obtain ⟨xs, m, _, _, _, hlen, hg⟩ := DataW.trod_struct Tryz.underlying38 h
  match xs, hlen with
  | [y0, y1, y2, y3, y4], _ =>
    have g0 : DataW.trod enc Tryz.prog w 0 (fun _ => true) true m 3 (([c0, c1, c2, c3, c4, c5, c6, c7, c8].drop 0).take (Tryz.prog.cellsOf 3)) = some y0 := hg 0 _ rfl
    have g1 : DataW.trod enc Tryz.prog w 0 (fun _ => true) true m 3 (([c0, c1, c2, c3, c4, c5, c6, c7, c8].drop 1).take (Tryz.prog.cellsOf 3)) = some y1 := hg 1 _ rfl
    have g2 : DataW.trod enc Tryz.prog w 0 (fun _ => true) true m 3 (([c0, c1, c2, c3, c4, c5, c6, c7, c8].drop 2).take (Tryz.prog.cellsOf 3)) = some y2 := hg 2 _ rfl
    have g3 : DataW.trod enc Tryz.prog w 0 (fun _ => true) true m 36 (([c0, c1, c2, c3, c4, c5, c6, c7, c8].drop 3).take (Tryz.prog.cellsOf 36)) = some y3 := hg 3 _ rfl
    have g4 : DataW.trod enc Tryz.prog w 0 (fun _ => true) true m 9 (([c0, c1, c2, c3, c4, c5, c6, c7, c8].drop 8).take (Tryz.prog.cellsOf 9)) = some y4 := hg 4 _ rfl
    rw [hC1] at g0 g1 g2
    rw [hC2] at g3
    rw [hC3] at g4
    obtain ⟨a, e0, _, _⟩ := DataW.trod_int Tryz.underlying3 g0
    obtain ⟨b, e1, _, _⟩ := DataW.trod_int Tryz.underlying3 g1
    obtain ⟨c, e2, _, _⟩ := DataW.trod_int Tryz.underlying3 g2
    obtain ⟨e, e3, w3⟩ := ent_trod (c0 := c3) (c1 := c4) (c2 := c5) (c3 := c6) (c4 := c7) g3
    obtain ⟨s, e4, _, _⟩ := DataW.trod_string Tryz.underlying9 g4
    simp at e0 e1 e2 e4
    simp only [entA, Array.mk.injEq, List.cons.injEq, and_true] at e3
    obtain ⟨rfl, rfl, rfl, rfl, rfl⟩ := e3
    subst e0 e1 e2 e4
    exact ⟨⟨a, b, c, e, s⟩, rfl, w3⟩

set_option maxRecDepth 100000 in
theorem open_dd {w : World} {v : Value} {d : DataW H} {p : List MemPlace} {r : Reach} {b0 : Nat} (hv : Value.okWide Tryz.prog w r b0 38 v) (h : DataW.Trod enc Tryz.prog w 0 (fun _ => true) true 38 v d p) :
    ∃ x : Dd, v = .agg (ddA x) ∧ x.e.name.size ≤ maxLen := by
  have hC : Tryz.prog.cellsOf 38 = 9 := by kernel_rfl
  obtain ⟨cs, rfl, hsz⟩ := okWide_struct Tryz.underlying38 hv
  obtain ⟨l⟩ := cs
  match l, hsz.trans hC with
  | [c0, c1, c2, c3, c4, c5, c6, c7, c8], _ =>
    obtain ⟨fuel, hf⟩ := h
    obtain ⟨x, he, hs⟩ := dd_trod (c0 := c0) (c1 := c1) (c2 := c2) (c3 := c3) (c4 := c4) (c5 := c5) (c6 := c6) (c7 := c7) (c8 := c8) hf
    exact ⟨x, by rw [← he], hs⟩

set_option maxRecDepth 100000 in
theorem open_dds {w : World} {v : Value} {d : DataW H} {p : List MemPlace} {r : Reach} {b0 : Nat} (hv : Value.okWide Tryz.prog w r b0 22 v) (h : DataW.Trod enc Tryz.prog w 0 (fun _ => true) true 22 v d p) :
    ∃ (A : Option Addr) (n c : Nat) (ds : List Dd), v = .slice A n c ∧ n ≤ c ∧ c ≤ maxLen ∧ (∀ x ∈ ds, x.e.name.size ≤ maxLen) ∧ DdsIn w w.heap.size A n ds := by
  obtain ⟨A, n, c, rfl⟩ := okWide_slice Tryz.underlying22 hv
  obtain ⟨fuel, hf⟩ := h
  have hC : Tryz.prog.cellsOf 38 = 9 := by kernel_rfl
  rcases Deep.open_slice Tryz.underlying22 hf with ⟨hcs, _⟩ | ⟨a, len, cap, m, k, D, Pl, hcs, _, hlc, hcm, hm, hx, hi⟩
  · simp only [Value.cells, List.cons.injEq, and_true, Value.slice.injEq] at hcs
    obtain ⟨rfl, rfl, rfl⟩ := hcs
    exact ⟨none, 0, 0, [], rfl, by omega, by decide, (fun x hx => by cases hx), ⟨rfl, fun h => by omega⟩⟩
  · simp only [Value.cells, List.cons.injEq, and_true, Value.slice.injEq] at hcs
    obtain ⟨rfl, rfl, rfl⟩ := hcs
    have hmc : m = c := by rw [hm]; rfl
    subst hmc
    rw [hC] at hi
    have each : ∀ i, i < n → ∃ x : Dd, (∀ j v, (ddA x)[j]? = some v → w.cell? ((a.add (i * 9)).add j) = some v) ∧ x.e.name.size ≤ maxLen := by
      intro i hin
      obtain ⟨cs, hc, ht⟩ := hi i (by omega)
      obtain ⟨_, hl, hat⟩ := World.cells?_some hc
      match cs, hl with
      | [c0, c1, c2, c3, c4, c5, c6, c7, c8], _ =>
        obtain ⟨x, he, hs⟩ := dd_trod (c0 := c0) (c1 := c1) (c2 := c2) (c3 := c3) (c4 := c4) (c5 := c5) (c6 := c6) (c7 := c7) (c8 := c8) ht
        refine ⟨x, fun j v hj => ?_, hs⟩
        rw [← he] at hj
        have hj9 : j < 9 := (Array.getElem?_eq_some_iff.1 hj).1
        rw [hat j hj9]
        simpa using hj
    obtain ⟨g, o, sp⟩ := a
    have hsp : 0 < n → sp = none := fun hn => by
      obtain ⟨x, hc, _⟩ := each 0 hn
      exact cell_spot (by simpa [Addr.add] using hc 0 _ rfl)
    refine ⟨some ⟨g, o, sp⟩, n, m, (List.range n).map (fun i => if h : i < n then Classical.choose (each i h) else ⟨0, 0, 0, ⟨(0, 0), ⟨#[]⟩, (0, 0)⟩, ⟨#[]⟩⟩), rfl, hlc, hcm, fun x hx => ?_, ⟨by simp, fun hn => ?_⟩⟩
    · obtain ⟨i, hi1, rfl⟩ := List.mem_map.1 hx
      have hin := List.mem_range.1 hi1
      rw [dif_pos hin]
      exact (Classical.choose_spec (each i hin)).2
    · have hs := hsp hn
      subst hs
      obtain ⟨x0, c0, _⟩ := each 0 hn
      refine ⟨g, o, rfl, World.block_lt_of_cell? _ _ (c0 0 _ rfl), fun j hj i v hv => ?_⟩
      have hjn : j < n := by simpa using hj
      have he : ((((List.range n).map (fun i => if h : i < n then Classical.choose (each i h) else (⟨0, 0, 0, ⟨(0, 0), ⟨#[]⟩, (0, 0)⟩, ⟨#[]⟩⟩ : Dd))).map ddA)[j]'hj) = ddA (Classical.choose (each j hjn)) := by
        rw [List.getElem_map, List.getElem_map, List.getElem_range, dif_pos hjn]
      rw [he] at hv
      have q := (Classical.choose_spec (each j hjn)).1 i v hv
      rw [tab_add, tab_add] at q
      exact q

end Go.Proofs.YthobfeohgeeofaaGreat
