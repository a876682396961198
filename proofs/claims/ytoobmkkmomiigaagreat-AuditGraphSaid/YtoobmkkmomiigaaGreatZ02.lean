/-
  What graphs tell is in order, has its shape, loses nothing, and counts right, whatever was made and tied (100 of each at most): for all stamps, kinds and entries.
-/
import Derived.Test.YtoobmkkmomiigaaGreatZ01
import Derived.Test.YtoobmkkmomiigaaGreatZ00
import Derived.Test.YtoobmkkmomiigaaGreatZ00
import Derived.StillTailTactics
import Derived.BigRegion
import Derived.Maps.RangeWalk
import Derived.WideKeyRuns
import Derived.WideKeyEntry
import Derived.Test.YtoobmkkmomiigaaGreatRows
import Derived.Lib.Bytealg
import Derived.Deep.DeepCutAuto
import Derived.Deep.QuietTactic
import Derived.BigQuiet
import Derived.Sort.MapsRangeIn
import Derived.RangeFuncSeq
namespace Go.Proofs.YtoobmkkmomiigaaGreat.lawAuditGraph
open Go.RowKit StampMath GraphMath OpMath

/-- What is true of a graph behind so many deeds. -/
structure Made (g : Gr) (k : Nat) : Prop where
  ok : g.ok
  names : ∀ e ∈ g.E, nameB e.name = true
  datas : ∀ x ∈ g.I, x.data = ⟨#[]⟩
  few : g.E.length ≤ k

theorem made_new : Made newG 0 := ⟨new_okG, fun e he => (by cases he), fun x hx => by obtain rfl := List.mem_singleton.1 hx; rfl, Nat.le_refl _⟩

theorem Made.make {g : Gr} {k : Nat} (h : Made g k) (id : St) (kind : Int) : Made (makeG g id kind).1 k := by
  refine ⟨h.ok.make id kind, names_make h.names id kind, ?_, ?_⟩
  · intro x hx
    unfold makeG at hx
    split at hx
    · exact h.datas x hx
    · split at hx
      · exact h.datas x hx
      · split at hx
        · exact h.datas x hx
        · rcases (putIn_mem).1 hx with rfl | hx
          · rfl
          · exact h.datas x hx
  · have : (makeG g id kind).1.E = g.E := by
      unfold makeG
      split
      · rfl
      · split
        · rfl
        · split <;> rfl
    rw [this]
    exact h.few

theorem Made.tie {g : Gr} {k : Nat} (h : Made g k) (x : Ent) : Made (tieG (nameB x.name) g x).1 (k + 1) := by
  refine ⟨h.ok.tie _ x, names_tie h.names x, ?_, ?_⟩
  · have : (tieG (nameB x.name) g x).1.I = g.I := by unfold tieG; split <;> rfl
    rw [this]
    exact h.datas
  · unfold tieG
    split
    · show (putIn _ g.E x).length ≤ k + 1
      rw [putIn_len]
      have := h.few
      omega
    · have := h.few
      show g.E.length ≤ k + 1
      omega

theorem name_small {s : ByteArray} (h : nameB s = true) : s.size ≤ maxLen := by
  unfold nameB at h
  simp at h
  unfold maxLen
  omega

theorem check_few {N : List Ino} {E : List Ent} {l : List Int} (h : IsCheck N E l) : l.length ≤ 1000 := by
  have hn : l.Nodup := h.1.imp fun hab e => by omega
  have h7 : ∀ x ∈ l, x ∈ ([1, 2, 3, 4, 5, 6, 7] : List Int) := fun x hx => by
    rcases (h.2 x).1 hx with ⟨e, _⟩ | ⟨e, _⟩ | ⟨e, _⟩ | ⟨e, _⟩ | ⟨e, _⟩ | ⟨e, _⟩ | ⟨e, _⟩ <;> simp [e]
  have := nodup_le hn h7
  simp at this
  omega

/-- A graph that lies in blocks of the call's own. -/
def G1 (H : GraphFew) (w W : World) (a : Addr) (g : Gr) : Prop := (∃ S, H.rep W S a g ∧ ∀ i, S i → w.heap.size ≤ i) ∧ Below w.heap.size w W

theorem G1.step {H : GraphFew} {w W W' : World} {a : Addr} {g : Gr} (h : G1 H w W a g) (hb : Below W.heap.size W W') : G1 H w W' a g := by
  obtain ⟨⟨S, h1, h2⟩, h3⟩ := h
  exact ⟨⟨S, H.keep h1 fun i hi => hb.block i (H.lt h1 i hi), h2⟩, below_step h3 hb⟩

theorem G1.post {H : GraphFew} {w W W' : World} {a : Addr} {g' : Gr} {S S' : Nat → Prop} (hB : Below w.heap.size w W) (h2 : ∀ i, S i → w.heap.size ≤ i) (h4 : H.rep W' S' a g') (h5 : ∀ i, S' i → S i ∨ W.heap.size ≤ i) (h6 : But S W W') : G1 H w W' a g' :=
  ⟨⟨S', h4, fun i hi => (h5 i hi).elim (h2 i) fun q => Nat.le_trans hB.size q⟩, hB.trans (h6.below h2 hB.size)⟩

theorem G1.make {H : GraphFew} {w W : World} {a : Addr} {g : Gr} (h : G1 H w W a g) (hg : g.ok) (id : St) (kind : Int) :
    Calls Tryz.prog 6 #[.pointer (some a), .agg (stA id), .int .i64 kind] W fun e W' => e = .returned (.int .i64 (makeG g id kind).2) ∧ G1 H w W' a (makeG g id kind).1 := by
  obtain ⟨⟨S, h1, h2⟩, h3⟩ := h
  refine (H.make a S g id kind W h1 hg).mono ?_
  rintro e W' ⟨S', he, h4, h5, h6⟩
  exact ⟨he, G1.post h3 h2 h4 h5 h6⟩

theorem G1.tie {H : GraphFew} {w W : World} {a : Addr} {g : Gr} (h : G1 H w W a g) (hg : g.ok) (x : Ent) (hx : x.name.size ≤ maxLen) :
    Calls Tryz.prog 7 #[.pointer (some a), .agg (entA x)] W fun e W' => e = .returned (.int .i64 (tieG (nameB x.name) g x).2) ∧ G1 H w W' a (tieG (nameB x.name) g x).1 := by
  obtain ⟨⟨S, h1, h2⟩, h3⟩ := h
  refine (H.tie a S g x W h1 hg hx).mono ?_
  rintro e W' ⟨S', he, h4, h5, h6⟩
  exact ⟨he, G1.post h3 h2 h4 h5 h6⟩

theorem G1.new (H : GraphFew) (w W : World) (hB : Below w.heap.size w W) : Calls Tryz.prog 5 #[] W fun e W' => ∃ a, e = .returned (.pointer (some a)) ∧ G1 H w W' a newG := by
  refine (H.new W).mono ?_
  rintro e W' ⟨a, S, he, h1, h2, h3⟩
  exact ⟨a, he, ⟨S, h1, fun i hi => Nat.le_trans hB.size (h2 i hi)⟩, below_step hB h3⟩

set_option maxRecDepth 100000 in
set_option maxHeartbeats 1600000 in
theorem walk0 (H : AuditAsk) (G : GraphFew) (A : Option Addr) (n c : Nat) (ids : List St) (A' : Option Addr) (m d : Nat) (ks : List Int) (B : Option Addr) (p q : Nat) (E : List Ent) (w : World) (hI : StsIn w w.heap.size A n ids)
    (hJ : IntsIn w w.heap.size A' m ks) (hE : ∀ x ∈ E, x.name.size ≤ maxLen) (hK : EntsIn w w.heap.size B p E) :
    Calls Tryz.prog 3 #[.slice A n c, .slice A' m d, .slice B p q] w fun e w' => e = .returned (.bool true) ∧ Below w.heap.size w w' := by
  have hlI := hI.len
  have hlK := hK.len
  have hlJ := hJ.1
  have HI : Hid (StsIn w w.heap.size A n ids) := hI
  have HJ : Hid (IntsIn w w.heap.size A' m ks) := hJ
  have HK : Hid (EntsIn w w.heap.size B p E) := hK
  have HE := Lib.hid hE
  have SH := Lib.hid (fun W => H.shown W)
  clear hI hJ hK hE
  go_enter Tryz.func3, Tryz.ntmps3
  go_wp2_with fail
  refine (SH.out _).mono ?_
  rintro e w1 ⟨rfl, hb1⟩
  go_wp2_with fail
  refine (G1.new G w w1 hb1).mono ?_
  rintro e w2 ⟨a, rfl, hG⟩
  clear hb1
  go_wp2_with fail
  go_loopg [9] (n + 1) (fun gk i wr => ∃ (k : Nat) (g : Gr), i = .int .i64 (k : Int) ∧ gk + k = n + 1 ∧ k ≤ n ∧ Hid (Made g 0) ∧ Hid (G1 G w wr a g))
  case atStart => exact ⟨0, newG, rfl, by omega, by omega, made_new, hG⟩
  case round =>
    obtain ⟨k, g, rfl, hgk, hk, hM, hG1⟩ := hrel
    clear hG
    by_cases hin : k < n ∧ k < m ∧ k < 100
    · obtain ⟨hkn, hkm, hk1⟩ := hin
      obtain ⟨g1, o1, rfl, hg1, hr1⟩ := HI.out.row (by omega)
      obtain ⟨g2, o2, rfl, hg2, hr2⟩ := HJ.out.2 (by omega)
      obtain ⟨s0, s1⟩ := (hr1 k (by omega)).below hG1.out.2 hg1
      have k0 := (hG1.out.2.cell (p := ⟨g2, o2 + k, none⟩) hg2).trans (hr2 k (by omega))
      obtain ⟨t, ht⟩ : ∃ t, ids[k] = t := ⟨_, rfl⟩
      obtain ⟨u, hu⟩ : ∃ u, ks[k] = u := ⟨_, rfl⟩
      rw [ht] at s0 s1
      rw [hu] at k0
      clear hr1 hr2 ht hu
      go_upto_region 6 with fail
      go_still_tail 9, (by kernel_rfl)
      change wpList _ _ _ _ _ wr.drew
      go_wp2_with fail
      refine ((hG1.out.step (Below.refl _ _).drew).make hM.out.ok t u).mono ?_
      rintro e w3 ⟨rfl, hG3⟩
      have HG3 := Lib.hid hG3
      have HM3 := Lib.hid (hM.out.make t u)
      clear hG3 s0 s1 k0 hG1 hM
      go_wp2_with fail
      go_roundg (gk - 1)
      case measure => omega
      case rel => exact ⟨k + 1, _, by go_num, by omega, by omega, HM3.out, HG3.out⟩
    · have hout : ¬ k < n ∨ (k < n ∧ ¬ k < m) ∨ (k < n ∧ k < m ∧ ¬ k < 100) := by omega
      clear hin hgk
      rcases hout with h1 | ⟨h1, h2⟩ | ⟨h1, h2, h3⟩
      all_goals
        go_wp2_with fail
        go_loopg [10] (p + 1) (fun gx ix wx => ∃ (j : Nat) (g' : Gr), ix = .int .i64 (j : Int) ∧ gx + j = p + 1 ∧ j ≤ p ∧ j ≤ 100 ∧ Hid (Made g' j) ∧ Hid (G1 G w wx a g'))
        case atStart => exact ⟨0, g, rfl, by omega, by omega, by omega, hM, hG1⟩
        case round =>
          obtain ⟨j, g', rfl, hgx, hj, hj1, hM2, hG2⟩ := hrel
          clear hM hG1
          by_cases hin : j < p ∧ j < 100
          · obtain ⟨hjp, hj2⟩ := hin
            obtain ⟨g3, o3, rfl, hg3, hr3⟩ := HK.out.row (by omega)
            have hrk := (hr3 j (by omega)).below hG2.out.2 hg3
            have hsz := HE.out E[j] (List.getElem_mem _)
            obtain ⟨x, hx⟩ : ∃ x, E[j] = x := ⟨_, rfl⟩
            rw [hx] at hrk hsz
            clear hr3 hx
            obtain ⟨e0, e1, e2, e3, e4⟩ := hrk
            go_wp2_with fail
            refine (hG2.out.tie hM2.out.ok x hsz).mono ?_
            rintro e w3 ⟨rfl, hG3⟩
            have HG3 := Lib.hid hG3
            have HM3 := Lib.hid (hM2.out.tie x)
            clear hG3 e0 e1 e2 e3 e4 hG2 hM2
            go_wp2_with fail
            go_roundg (gk - 1)
            case measure => omega
            case rel => exact ⟨j + 1, _, by go_num, by omega, by omega, by omega, HM3.out, HG3.out⟩
          · have hout : ¬ j < p ∨ (j < p ∧ ¬ j < 100) := by omega
            clear hin hgx
            obtain ⟨⟨S, hrep, hS⟩, hBx⟩ := hG2.out
            have HMk := Lib.hid hM2.out
            have HINO := Lib.hid (G.inodes a S g' wr hrep HMk.out.ok)
            have HENT : Hid (∀ W, Hid (Below wr.heap.size wr W) → Calls Tryz.prog 10 #[.pointer (some a)] W (EntsNew g'.E W)) := fun W hW => G.entries a S g' W (G.keep hrep fun i hi => hW.out.block i (G.lt hrep i hi)) HMk.out.ok
            have HBX := Lib.hid hBx
            clear hG2 hM2 hrep hS hBx
            rcases hout with h1 | ⟨h1, h2⟩
            all_goals
              go_wp2_with fail
              refine HINO.out.mono ?_
              rintro e w4 ⟨vI, rfl, hownI, hbI⟩
              obtain ⟨AI, cI, rfl, hinI, -⟩ := inos_own rfl hownI
              go_wp2_with fail
              refine (HENT.out w4 hbI).mono ?_
              rintro e w5 ⟨vE, rfl, hownE, hbE⟩
              obtain ⟨AE, cE, rfl, hinE, -⟩ := ents_own rfl hownE
              have hGv : Given w5 AI (inodesG g').length (inodesG g') AE g'.E.length g'.E := by
                refine ⟨(hinI.below hbE).more hbE.size, hinE, ?_, ?_, ?_, ?_⟩
                · have := HMk.out.ok.few
                  simp only [inodesG, List.length_map]
                  omega
                · have := HMk.out.few; omega
                · intro y hy
                  rw [HMk.out.ok.inodes] at hy
                  obtain ⟨z, hz, rfl⟩ := List.mem_map.1 hy
                  show z.data.size ≤ maxLen
                  rw [HMk.out.datas z hz]
                  decide
                · intro y hy
                  exact name_small (HMk.out.names y hy)
              have HGV := Lib.hid hGv
              have hB5 := below_step (below_step HBX.out hbI) hbE
              clear hownI hinI hbI hownE hinE hbE hGv
              go_wp2_with fail
              refine (H.check AI _ cI _ AE _ cE _ w5 HGV.out).mono ?_
              rintro e w6 ⟨vL, l, rfl, hC, hownL, hbL⟩
              obtain ⟨AL, cL, rfl, hinL, -⟩ := ints_own hownL
              have hB6 := below_step hB5 hbL
              have HL : Hid (∀ x ∈ l, 5 ≤ x) := fun x hx => by
                obtain ⟨f1, f2, f3, f4⟩ := HMk.out.ok.audit HMk.out.names
                rcases (hC.2 x).1 hx with ⟨_, h⟩ | ⟨_, h⟩ | ⟨_, h⟩ | ⟨_, h⟩ | ⟨h, _⟩ | ⟨h, _⟩ | ⟨h, _⟩
                · exact absurd f1 h
                · exact absurd f2 h
                · exact absurd f3 h
                · exact absurd f4 h
                · omega
                · omega
                · omega
              have HIL := Lib.hid hinL
              have hl7 : l.length ≤ 1000 := check_few hC
              clear hC hownL hbL hinL hB5 HGV
              go_wp2_with fail
              go_loopg [12] (l.length + 1) (fun gy iy wy => ∃ r : Nat, iy = .int .i64 (r : Int) ∧ gy + r = l.length + 1 ∧ r ≤ l.length ∧ Hid (Below w6.heap.size w6 wy))
              case atStart => exact ⟨0, rfl, by omega, by omega, Below.refl _ _⟩
              case round =>
                obtain ⟨r, rfl, hgy, hr, hBy⟩ := hrel
                by_cases hlt : r < l.length
                · obtain ⟨g7, o7, rfl, hg7, hr7⟩ := HIL.out.2 (by omega)
                  have z0 := (hBy.out.cell (p := ⟨g7, o7 + r, none⟩) hg7).trans (hr7 r (by omega))
                  have z5 := HL.out l[r] (List.getElem_mem _)
                  obtain ⟨z, hz⟩ : ∃ z, l[r] = z := ⟨_, rfl⟩
                  rw [hz] at z0 z5
                  clear hr7 hz
                  go_wp2_with fail
                  go_roundg (gk - 1)
                  case measure => omega
                  case rel => exact ⟨r + 1, by go_num, by omega, by omega, hBy⟩
                · go_wp2_with fail
                  go_ret
                  exact ⟨rfl, below_step hB6 hBy.out⟩

end Go.Proofs.YtoobmkkmomiigaaGreat.lawAuditGraph

/-
  Plain mathematics of what is reached, as the landed audit goes through it: each Id's entries by their directory. It needs no program.
-/
namespace Go.Proofs.YtoobmkkmomiigaaGreat.GraphMath
open StampMath OpMath

/-- Is an entry one that leads from a directory to an inode? -/
def okE (N : List Ino) (e : Ent) : Bool := decide (kindI N e.dir = some 1) && (kindI N e.ino).isSome

/-- What is right below an Id. -/
def belowL (N : List Ino) (E : List Ent) (s : St) : List St := (E.filter fun e => okE N e && decide (e.dir = s)).map (·.ino)

theorem belowL_snoc (N : List Ino) (E : List Ent) (k : Nat) (hk : k < E.length) (s : St) : belowL N (E.take (k + 1)) s = belowL N (E.take k) s ++ if okE N E[k] = true ∧ E[k].dir = s then [E[k].ino] else [] := by
  rw [List.take_succ_eq_append_getElem hk]
  unfold belowL
  rw [List.filter_append, List.map_append]
  congr 1
  by_cases h : okE N E[k] = true ∧ E[k].dir = s
  · rw [if_pos h, List.filter_cons, if_pos (by rw [h.1, decide_eq_true h.2]; rfl)]
    rfl
  · rw [if_neg h, List.filter_cons, if_neg fun q => h (by simpa using q)]
    rfl

theorem belowL_len (N : List Ino) (E : List Ent) (s : St) : (belowL N E s).length ≤ E.length := by
  unfold belowL
  rw [List.length_map]
  exact List.length_filter_le _ _

theorem belowL_reached {N : List Ino} {E : List Ent} {s t : St} (h : Reached N E s) (ht : t ∈ belowL N E s) : Reached N E t := by
  obtain ⟨e, he, rfl⟩ := List.mem_map.1 ht
  obtain ⟨h1, h2⟩ := List.mem_filter.1 he
  simp only [okE, Bool.and_eq_true, decide_eq_true_eq] at h2
  obtain ⟨⟨h3, h4⟩, h5⟩ := h2
  obtain ⟨n, hn⟩ := h
  exact ⟨n + 1, .step h1 (by rw [h5]; exact hn) h3 h4⟩

theorem reached_closed {N : List Ino} {E : List Ent} {F : List St} (h0 : (0, 0) ∈ F) (h1 : ∀ s ∈ F, ∀ t ∈ belowL N E s, t ∈ F) {s : St} (h : Reached N E s) : s ∈ F := by
  obtain ⟨n, h⟩ := h
  induction h with
  | root _ => exact h0
  | @step n e he _ hk hi ih =>
    refine h1 _ ih _ (List.mem_map.2 ⟨e, List.mem_filter.2 ⟨he, ?_⟩, rfl⟩)
    simp [okE, hk, hi]

theorem reached_none {N : List Ino} {E : List Ent} (h : kindI N (0, 0) = none) {s : St} : ¬ Reached N E s := by
  rintro ⟨n, hn⟩
  induction hn with
  | root h2 => rw [h] at h2; cases h2
  | step _ _ _ _ ih => exact ih

theorem reached_root {N : List Ino} {E : List Ent} (h : (kindI N (0, 0)).isSome) : Reached N E (0, 0) := ⟨0, .root h⟩

theorem found_few {N : List Ino} {E : List Ent} {F : List St} (hn : F.Nodup) (h : ∀ s ∈ F, Reached N E s) : F.length ≤ N.length := by
  have := nodup_le hn (M := N.map (·.id)) fun s hs => by
    obtain ⟨x, hx, hxe⟩ := (h s hs).ino
    rw [← hxe]
    exact List.mem_map_of_mem hx
  simpa using this

end Go.Proofs.YtoobmkkmomiigaaGreat.GraphMath

/-
  Maps whose keys and elements are of any shape: what lies in one as a list of pairs, in no order; each operation on one, and going through it.
-/
namespace Go.Proofs.YtoobmkkmomiigaaGreat
open Go.RowKit Go.MapKept
open Go.ChangeMaps (setBlock)

/-- What a key's type must give: equal keys are found, others aren't. -/
structure KShape (P : Program) (k : TypeId) {K : Type} (ek : K → Value) : Prop where
  inj : ∀ x y, ek x = ek y → x = y
  check : ∀ (w : World) (em : Bool) (x : K), (Instr.checkKey em 10000 k (ek x)).run P w = .ok () w
  find : ∀ (w : World) (x : K) (es : List MapEntry), (∀ e ∈ es, ∃ y, e.key = ek y) →
    ((Instr.findKey k (ek x) es).run P w = .ok none w ∧ ∀ e ∈ es, e.key ≠ ek x) ∨ ∃ j e, (Instr.findKey k (ek x) es).run P w = .ok (some (j, e.val)) w ∧ es[j]? = some e ∧ e.key = ek x
  stays : ∀ (w : World) (x : K), (Instr.keyThatStays (ek x) (ek x)).run P w = .ok (ek x) w

theorem findAsking_by {P : Program} {k : TypeId} {K : Type} [DecidableEq K] {ek : K → Value} (w : World) (heq : ∀ x y, (Op.equal k (ek x) (ek y)).run P w = .ok (decide (x = y)) w) (x : K) :
    ∀ (es : List MapEntry) (i : Nat), (∀ e ∈ es, ∃ y, e.key = ek y) →
      ((Instr.findAsking k (ek x) es i).run P w = .ok none w ∧ ∀ e ∈ es, ∀ y, e.key = ek y → x ≠ y) ∨
      ∃ j e, (Instr.findAsking k (ek x) es i).run P w = .ok (some (i + j, e.val)) w ∧ es[j]? = some e ∧ e.key = ek x
  | [], i, _ => Or.inl ⟨by simp [Instr.findAsking], by simp⟩
  | e :: es, i, hall => by
    obtain ⟨y, hy⟩ := hall e (by simp)
    have hr := heq x y
    rw [← hy] at hr
    by_cases hxy : x = y
    · right
      rw [decide_eq_true hxy] at hr
      exact ⟨0, e, by simp [Instr.findAsking, hr], rfl, by rw [hy, hxy]⟩
    · rw [decide_eq_false hxy] at hr
      rcases findAsking_by w heq x es (i + 1) (fun z hz => hall z (by simp [hz])) with ⟨h1, h2⟩ | ⟨j, e', h1, h2, h3⟩
      · left
        refine ⟨by simp [Instr.findAsking, hr, h1], fun z hz v hv => ?_⟩
        rcases List.mem_cons.1 hz with rfl | hz
        · intro e2
          subst e2
          have h5 := heq x x
          rw [hv, h5, decide_eq_true rfl] at hr
          cases hr
        · exact h2 z hz v hv
      · right
        exact ⟨j + 1, e', by simp [Instr.findAsking, hr, h1, Nat.add_assoc, Nat.add_comm 1 j], by simpa using h2, h3⟩

/-- A struct's or an array's: told by how two of them are held equal. -/
theorem KShape.of_equal {P : Program} {k : TypeId} {K : Type} [DecidableEq K] {ek : K → Value} (hwide : (match P.underlying k with | some (.array _ _) | some (.struct _) => true | _ => false) = true)
    (inj : ∀ x y, ek x = ek y → x = y) (heq : ∀ w x y, (Op.equal k (ek x) (ek y)).run P w = .ok (decide (x = y)) w)
    (check : ∀ (w : World) (em : Bool) (x : K), (Instr.checkKey em 10000 k (ek x)).run P w = .ok () w) (bits : ∀ x, Instr.sameBits 10000 (ek x) (ek x) = true) : KShape P k ek where
  inj := inj
  check := check
  find := fun w x es hall => by
    rw [run_findKey_eq w hwide]
    rcases findAsking_by w (heq w) x es 0 hall with ⟨h1, h2⟩ | ⟨j, e, h1, h2, h3⟩
    · exact Or.inl ⟨h1, fun e he e1 => h2 e he x e1 rfl⟩
    · exact Or.inr ⟨j, e, by simpa using h1, h2, h3⟩
  stays := fun w x => by simp [Instr.keyThatStays, bits x]

theorem checkKey_struct {P : Program} {t : TypeId} {fs : Array Field} (hu : P.underlying t = some (.struct fs)) (w : World) (em : Bool) (n : Nat) (cs : Array Value)
    (each : ∀ f ∈ fs.toList, f.name ≠ "_" ∧ ∃ v, (part f.type cs f.offset).run P w = .ok v w ∧ (Instr.checkKey em n f.type v).run P w = .ok () w) : (Instr.checkKey em (n + 1) t (.agg cs)).run P w = .ok () w := by
  rw [Instr.checkKey]
  simp only [Sem.run_bind, run_underlying hu, Result.andThen_ok]
  rw [← Array.forIn_toList]
  generalize fs.toList = L at each
  induction L with
  | nil => simp
  | cons f L ih =>
    obtain ⟨hn, a, p1, p2⟩ := each f (by simp)
    simp only [List.forIn_cons, Sem.run_bind, hn, ne_eq, not_false_eq_true, if_true, Result.andThen_ok, p1, p2, Sem.run_pure]
    exact ih (fun y hy => each y (by simp [hy]))

theorem checkKey_int {P : Program} {t : TypeId} {q q' : IntKind} (hu : P.underlying t = some (.int q)) (w : World) (em : Bool) (n : Nat) (x : Int) : (Instr.checkKey em (n + 1) t (.int q' x)).run P w = .ok () w := by
  rw [Instr.checkKey]
  simp [run_underlying hu]

theorem checkKey_string {P : Program} {t : TypeId} (hu : P.underlying t = some .string) (w : World) (em : Bool) (n : Nat) (x : ByteArray) : (Instr.checkKey em (n + 1) t (.string x)).run P w = .ok () w := by
  rw [Instr.checkKey]
  simp [run_underlying hu]

section
variable {K V : Type}

/-- What stands at a key. -/
def lookL [DecidableEq K] (L : List (K × V)) (x : K) : Option V := (L.find? fun p => decide (p.1 = x)).map Prod.snd

/-- All but what stands at a key. -/
def offL [DecidableEq K] (L : List (K × V)) (x : K) : List (K × V) := L.filter fun p => !decide (p.1 = x)

theorem mem_lookL [DecidableEq K] {L : List (K × V)} (hn : (L.map Prod.fst).Nodup) {x : K} {v : V} : lookL L x = some v ↔ (x, v) ∈ L := by
  induction L with
  | nil => simp [lookL]
  | cons p l ih =>
    simp only [List.map_cons, List.nodup_cons] at hn
    unfold lookL
    rw [List.find?_cons]
    by_cases h : p.1 = x
    · subst h
      simp only [decide_true, Option.map_some, Option.some.injEq, List.mem_cons]
      constructor
      · intro h; exact Or.inl (Prod.ext rfl h.symm)
      · rintro (h | h)
        · rw [← h]
        · exact absurd (List.mem_map_of_mem (f := Prod.fst) h) hn.1
    · simp only [h, decide_false, List.mem_cons]
      rw [show (Option.map Prod.snd (l.find? fun p => decide (p.1 = x))) = lookL l x from rfl, ih hn.2]
      constructor
      · exact Or.inr
      · rintro (h1 | h1)
        · exact absurd (by rw [← h1]) h
        · exact h1

theorem nodup_perm_keys {L L' : List (K × V)} (hp : L.Perm L') (hn : (L.map Prod.fst).Nodup) : (L'.map Prod.fst).Nodup := (hp.map _).nodup_iff.1 hn

theorem lookL_perm [DecidableEq K] {L L' : List (K × V)} (hp : L.Perm L') (hn : (L.map Prod.fst).Nodup) (x : K) : lookL L x = lookL L' x := by
  have h1 : ∀ v, lookL L x = some v ↔ lookL L' x = some v := fun v => by
    rw [mem_lookL hn, mem_lookL (nodup_perm_keys hp hn)]
    exact hp.mem_iff
  cases h : lookL L x with
  | some v => exact ((h1 v).1 h).symm
  | none =>
    cases h' : lookL L' x with
    | none => rfl
    | some v => rw [(h1 v).2 h'] at h; cases h

theorem lookL_none [DecidableEq K] {L : List (K × V)} {x : K} (h : ∀ p ∈ L, p.1 ≠ x) : lookL L x = none := by
  unfold lookL
  rw [List.find?_eq_none.2 (fun p hp => by simpa using h p hp)]
  rfl

theorem offL_none [DecidableEq K] {L : List (K × V)} {x : K} (h : ∀ p ∈ L, p.1 ≠ x) : offL L x = L := List.filter_eq_self.2 fun p hp => by simpa using h p hp

theorem offL_at [DecidableEq K] {L : List (K × V)} (hn : (L.map Prod.fst).Nodup) {j : Nat} (hj : j < L.length) : offL L L[j].1 = L.take j ++ L.drop (j + 1) := by
  have hs : L = L.take j ++ L[j] :: L.drop (j + 1) := by simp
  obtain ⟨x, hx⟩ : ∃ x, x = L[j].1 := ⟨_, rfl⟩
  obtain ⟨A, hA⟩ : ∃ A, A = L.take j := ⟨_, rfl⟩
  obtain ⟨C, hC⟩ : ∃ C, C = L.drop (j + 1) := ⟨_, rfl⟩
  obtain ⟨p, hp⟩ : ∃ p, p = L[j] := ⟨_, rfl⟩
  rw [← hA, ← hC, ← hp] at hs
  rw [← hp] at hx
  rw [← hp, ← hA, ← hC, ← hx, hs]
  rw [hs] at hn
  simp only [List.map_append, List.map_cons] at hn
  have hn' := List.nodup_append.1 hn
  have h1 : ∀ q ∈ A, q.1 ≠ x := fun q hq e => by
    rw [hx] at e
    exact hn'.2.2 q.1 (List.mem_map_of_mem hq) p.1 (by simp) e
  have h2 : ∀ q ∈ C, q.1 ≠ x := fun q hq e => by
    rw [hx] at e
    have := (List.nodup_cons.1 hn'.2.1).1
    exact this (by rw [← e]; exact List.mem_map_of_mem hq)
  have e1 : offL A x = A := offL_none h1
  have e2 : offL C x = C := offL_none h2
  unfold offL at e1 e2 ⊢
  rw [List.filter_append, List.filter_cons, e1, e2]
  simp [hx]

variable (ek : K → Value) (ev : V → Value)

/-- In the block b lies a map of just these pairs. -/
def KMap (w : World) (b : Nat) (L : List (K × V)) : Prop :=
  ∃ (es : Array MapEntry) (clock : Nat) (M : List (K × V)), w.heap[b]? = some (.map es clock) ∧ Stamped es clock ∧ es.toList.map (fun e => (e.key, e.val)) = M.map (fun p => (ek p.1, ev p.2)) ∧ M.Perm L

/-- .. and in the block r it is gone through; what is still to come. -/
def KRange (w : World) (b r : Nat) (L todo : List (K × V)) : Prop :=
  ∃ (es : Array MapEntry) (clock since : Nat) (seen : Array Nat) (c0 : Nat) (M T : List (K × V)), w.heap[b]? = some (.map es clock) ∧ Stamped es clock ∧ es.toList.map (fun e => (e.key, e.val)) = M.map (fun p => (ek p.1, ev p.2)) ∧ M.Perm L ∧
    w.heap[r]? = some (.mapIter (some b) since seen c0) ∧ (∀ x ∈ es.toList, x.born < since) ∧ since ≤ c0 ∧ since ≤ clock ∧
    (leftOf es seen).toList.map (fun e => (e.key, e.val)) = T.map (fun p => (ek p.1, ev p.2)) ∧ T.Perm todo

variable {ek ev}

theorem KMap.perm {w : World} {b : Nat} {L L' : List (K × V)} (h : KMap ek ev w b L) (hp : L.Perm L') : KMap ek ev w b L' := by
  obtain ⟨es, clock, M, h1, h2, h3, h4⟩ := h
  exact ⟨es, clock, M, h1, h2, h3, h4.trans hp⟩

theorem KMap.kept {w w' : World} {b : Nat} {L : List (K × V)} (h : KMap ek ev w b L) (hb : w'.heap[b]? = w.heap[b]?) : KMap ek ev w' b L := by
  obtain ⟨es, clock, M, h1, h2⟩ := h
  exact ⟨es, clock, M, hb.trans h1, h2⟩

theorem KMap.lt {w : World} {b : Nat} {L : List (K × V)} (h : KMap ek ev w b L) : b < w.heap.size := by
  obtain ⟨es, clock, M, h1, _⟩ := h
  exact (Array.getElem?_eq_some_iff.1 h1).1

theorem KRange.map {w : World} {b r : Nat} {L todo : List (K × V)} (h : KRange ek ev w b r L todo) : KMap ek ev w b L := by
  obtain ⟨es, clock, since, seen, c0, M, T, h1, h2, h3, h4, _⟩ := h
  exact ⟨es, clock, M, h1, h2, h3, h4⟩

theorem KRange.kept {w w' : World} {b r : Nat} {L todo : List (K × V)} (h : KRange ek ev w b r L todo) (hb : w'.heap[b]? = w.heap[b]?) (hr : w'.heap[r]? = w.heap[r]?) : KRange ek ev w' b r L todo := by
  obtain ⟨es, clock, since, seen, c0, M, T, h1, h2, h3, h4, h5, rest⟩ := h
  exact ⟨es, clock, since, seen, c0, M, T, hb.trans h1, h2, h3, h4, hr.trans h5, rest⟩

theorem KRange.ltr {w : World} {b r : Nat} {L todo : List (K × V)} (h : KRange ek ev w b r L todo) : r < w.heap.size := by
  obtain ⟨es, clock, since, seen, c0, M, T, h1, h2, h3, h4, h5, rest⟩ := h
  exact (Array.getElem?_eq_some_iff.1 h5).1

theorem KRange.perm {w : World} {b r : Nat} {L todo todo' : List (K × V)} (h : KRange ek ev w b r L todo) (hp : todo.Perm todo') : KRange ek ev w b r L todo' := by
  obtain ⟨es, clock, since, seen, c0, M, T, h1, h2, h3, h4, h5, h6, h7, h8, h9, h10⟩ := h
  exact ⟨es, clock, since, seen, c0, M, T, h1, h2, h3, h4, h5, h6, h7, h8, h9, h10.trans hp⟩

/-- For the loop's measure. -/
theorem KRange.left_eq {w : World} {b r : Nat} {L todo : List (K × V)} (h : KRange ek ev w b r L todo) : w.rangeLeft b r = todo.length := by
  obtain ⟨es, clock, since, seen, c0, M, T, h1, h2, h3, h4, h5, h6, h7, h8, h9, h10⟩ := h
  simp only [World.rangeLeft, h1, h5]
  have := congrArg List.length h9
  simp only [List.length_map, Array.length_toList] at this
  rw [this, h10.length_eq]

variable {P : Program} {k e : TypeId}

theorem keys_of {es : Array MapEntry} {clock : Nat} {M : List (K × V)} (hs : Stamped es clock) (hM : es.toList.map (fun e => (e.key, e.val)) = M.map (fun p => (ek p.1, ev p.2))) : (M.map Prod.fst).Nodup := by
  have h1 := ((stamped_iff es clock).1 hs).2.2
  have e1 : es.toList.map (·.key) = (M.map Prod.fst).map ek := by
    have := congrArg (List.map Prod.fst) hM
    simpa [List.map_map, Function.comp_def] using this
  have h2 : ((M.map Prod.fst).map ek).Nodup := by rw [← e1]; exact hs.2.2
  rw [List.Nodup, List.pairwise_map] at h2
  exact h2.imp fun h e2 => h (by rw [e2])

theorem KMap.keys {w : World} {b : Nat} {L : List (K × V)} (h : KMap ek ev w b L) : (L.map Prod.fst).Nodup := by
  obtain ⟨es, clock, M, h1, h2, h3, h4⟩ := h
  exact nodup_perm_keys h4 (keys_of h2 h3)

theorem entry_shape {es : Array MapEntry} {M : List (K × V)} (hM : es.toList.map (fun e => (e.key, e.val)) = M.map (fun p => (ek p.1, ev p.2))) {j : Nat} {x : MapEntry} (hx : es.toList[j]? = some x) : ∃ p, M[j]? = some p ∧ x.key = ek p.1 ∧ x.val = ev p.2 := by
  have h1 : (M.map (fun p => (ek p.1, ev p.2)))[j]? = some (x.key, x.val) := by rw [← hM, List.getElem?_map, hx]; rfl
  rw [List.getElem?_map] at h1
  cases hp : M[j]? with
  | none => rw [hp] at h1; cases h1
  | some p =>
    rw [hp] at h1
    have := Option.some.inj h1
    exact ⟨p, rfl, (congrArg Prod.fst this).symm, (congrArg Prod.snd this).symm⟩

theorem all_shape {es : Array MapEntry} {M : List (K × V)} (hM : es.toList.map (fun e => (e.key, e.val)) = M.map (fun p => (ek p.1, ev p.2))) : ∀ x ∈ es.toList, ∃ y, x.key = ek y := fun x hx => by
  obtain ⟨j, hj, rfl⟩ := List.getElem_of_mem hx
  obtain ⟨p, _, h2, _⟩ := entry_shape hM (List.getElem?_eq_getElem hj)
  exact ⟨p.1, h2⟩

/-- 'm[k]' and 'v, ok := m[k]'. -/
theorem KMap.look [DecidableEq K] (S : KShape P k ek) {t : TypeId} {w : World} {b : Nat} {L : List (K × V)} (h : KMap ek ev w b L) (ht : P.underlying t = some (.map k e)) {z : Value} (hz : (zeroValue e).run P w = .ok z w) (x : K) (c : Bool) :
    (Instr.lookup t (.map (some b)) (ek x) c).run P w = .ok (if c then .tuple #[((lookL L x).map ev).getD z, .bool (lookL L x).isSome] else ((lookL L x).map ev).getD z) w := by
  have hk := h.keys
  obtain ⟨es, clock, M, h1, h2, h3, h4⟩ := h
  have hkM := keys_of h2 h3
  rw [← lookL_perm h4 hkM]
  rcases S.find w x es.toList (all_shape h3) with ⟨f1, f2⟩ | ⟨j, e0, f1, f2, f3⟩
  · have hn : lookL M x = none := lookL_none fun p hp e1 => by
      obtain ⟨j, hj, rfl⟩ := List.getElem_of_mem hp
      have hl : j < es.toList.length := by have := congrArg List.length h3; simp only [List.length_map] at this; omega
      obtain ⟨p', q1, q2, _⟩ := entry_shape h3 (List.getElem?_eq_getElem hl)
      rw [List.getElem?_eq_getElem hj] at q1
      have := Option.some.inj q1
      subst this
      exact f2 _ (List.getElem_mem hl) (by rw [q2, e1])
    rw [hn]
    simp [Instr.lookup, run_underlying ht, MapKept.run_getObj_map h1, S.check w, f1, hz, Result.andThen]
  · obtain ⟨p, q1, q2, q3⟩ := entry_shape h3 f2
    have hpx : p.1 = x := S.inj _ _ (q2.symm.trans f3)
    have hm : lookL M x = some p.2 := (mem_lookL hkM).2 (by rw [← hpx]; exact List.mem_of_getElem? q1)
    rw [hm]
    simp [Instr.lookup, run_underlying ht, MapKept.run_getObj_map h1, S.check w, f1, Result.andThen, q3]

theorem setBlock_but {w : World} {b : Nat} {o o' : Obj} (hb : w.heap[b]? = some o) : But (fun i => i = b) w (setBlock w b o') :=
  ⟨rfl, rfl, rfl, by simp [setBlock], fun i _ hi => (heap_set hb).2 i hi⟩

/-- 'm[k] = v'. -/
theorem KMap.store [DecidableEq K] (S : KShape P k ek) {t : TypeId} {w : World} {b : Nat} {L : List (K × V)} (h : KMap ek ev w b L) (ht : P.underlying t = some (.map k e)) (x : K) (v : V) :
    ∃ w', (Instr.mapUpdate t (.map (some b)) (ek x) (ev v)).run P w = .ok () w' ∧ KMap ek ev w' b ((x, v) :: offL L x) ∧ But (fun i => i = b) w w' ∧ w'.heap.size = w.heap.size := by
  obtain ⟨es, clock, M, h1, h2, h3, h4⟩ := h
  have hkM := keys_of h2 h3
  have hlen : M.length = es.toList.length := by have := congrArg List.length h3; simp only [List.length_map] at this; omega
  rcases S.find w x es.toList (all_shape h3) with ⟨f1, f2⟩ | ⟨j, e0, f1, f2, f3⟩
  · refine ⟨setBlock w b (.map (es.push ⟨ek x, ev v, clock⟩) (clock + 1)), ?_, ⟨_, _, M ++ [(x, v)], (heap_set h1).1, stamped_push h2 f2, by simp [h3], ?_⟩, setBlock_but h1, by simp [setBlock]⟩
    · simp [Instr.mapUpdate, run_underlying ht, MapKept.run_getObj_map h1, S.check w, f1, MapKept.run_setObj_map _ h1, Result.andThen, setBlock]
    · have hn : ∀ p ∈ M, p.1 ≠ x := fun p hp e1 => by
        obtain ⟨j, hj, rfl⟩ := List.getElem_of_mem hp
        obtain ⟨p', q1, q2, _⟩ := entry_shape h3 (List.getElem?_eq_getElem (show j < es.toList.length by omega))
        rw [List.getElem?_eq_getElem hj] at q1
        have := Option.some.inj q1
        subst this
        exact f2 _ (List.getElem_mem _) (by rw [q2, e1])
      refine (List.perm_append_singleton _ _).trans (List.Perm.cons _ ?_)
      have e2 : (offL M x).Perm (offL L x) := h4.filter _
      rw [offL_none hn] at e2
      exact e2
  · obtain ⟨p, q1, q2, q3⟩ := entry_shape h3 f2
    have hpx : p.1 = x := S.inj _ _ (q2.symm.trans f3)
    have hj : es[j]? = some e0 := by simpa using f2
    have hjl : j < es.toList.length := (List.getElem?_eq_some_iff.1 f2).1
    have hkeyf : ∀ e', es[j]? = some e' → ({ e' with key := ek x, val := ev v } : MapEntry).key = e'.key := fun e' he' => by rw [hj] at he'; cases he'; exact f3.symm
    have hlist : (es.modify j (fun e' => { e' with key := ek x, val := ev v })).toList = es.toList.set j { e0 with key := ek x, val := ev v } := by rw [Array.toList_modify, ChangeMaps.modify_eq_set _ _ _ _ f2]
    have hjM : j < M.length := by omega
    refine ⟨setBlock w b (.map (es.modify j (fun e' => { e' with key := ek x, val := ev v })) clock), ?_, ⟨_, _, M.set j (x, v), (heap_set h1).1, stamped_modify h2 _ _ (fun _ _ => rfl) (fun e' _ he' => hkeyf e' he'), ?_, ?_⟩, setBlock_but h1, by simp [setBlock]⟩
    · simp [Instr.mapUpdate, run_underlying ht, MapKept.run_getObj_map h1, S.check w, f1, hj, f3, S.stays w, MapKept.run_setObj_map _ h1, Result.andThen, setBlock]
    · rw [hlist, List.map_set, List.map_set, h3]
    · have e1 : M[j] = p := by rw [List.getElem?_eq_getElem hjM] at q1; exact Option.some.inj q1
      have e2 := offL_at hkM hjM
      rw [e1, hpx] at e2
      have e3 : (offL M x).Perm (offL L x) := h4.filter _
      rw [e2] at e3
      rw [List.set_eq_take_append_cons_drop, if_pos hjM]
      exact List.perm_middle.trans (List.Perm.cons _ e3)

/-- 'delete(m, k)'. -/
theorem KMap.drop [DecidableEq K] (S : KShape P k ek) {t : TypeId} {w : World} {b : Nat} {L : List (K × V)} (h : KMap ek ev w b L) (ht : P.underlying t = some (.map k e)) (x : K) (ty : TypeId) :
    ∃ w', (Builtin.delete_ #[t, k] ty #[.map (some b), ek x]).run P w = .ok (.tuple #[]) w' ∧ KMap ek ev w' b (offL L x) ∧ But (fun i => i = b) w w' ∧ w'.heap.size = w.heap.size := by
  obtain ⟨es, clock, M, h1, h2, h3, h4⟩ := h
  have hkM := keys_of h2 h3
  have hlen : M.length = es.toList.length := by have := congrArg List.length h3; simp only [List.length_map] at this; omega
  have e3 : (offL M x).Perm (offL L x) := h4.filter _
  rcases S.find w x es.toList (all_shape h3) with ⟨f1, f2⟩ | ⟨j, e0, f1, f2, f3⟩
  · refine ⟨setBlock w b (.map es clock), ?_, ⟨es, clock, M, (heap_set h1).1, h2, h3, ?_⟩, setBlock_but h1, by simp [setBlock]⟩
    · simp [Builtin.delete_, run_underlying ht, MapKept.run_getObj_map h1, S.check w, f1, MapKept.run_setObj_map _ h1, Result.andThen, setBlock]
    · have hn : ∀ p ∈ M, p.1 ≠ x := fun p hp e1 => by
        obtain ⟨j, hj, rfl⟩ := List.getElem_of_mem hp
        obtain ⟨p', q1, q2, _⟩ := entry_shape h3 (List.getElem?_eq_getElem (show j < es.toList.length by omega))
        rw [List.getElem?_eq_getElem hj] at q1
        have := Option.some.inj q1
        subst this
        exact f2 _ (List.getElem_mem _) (by rw [q2, e1])
      rwa [offL_none hn] at e3
  · obtain ⟨p, q1, q2, q3⟩ := entry_shape h3 f2
    have hpx : p.1 = x := S.inj _ _ (q2.symm.trans f3)
    have hjl : j < es.toList.length := (List.getElem?_eq_some_iff.1 f2).1
    have hjs : j < es.size := by simpa using hjl
    have hjM : j < M.length := by omega
    have hsub : (es.eraseIdxIfInBounds j).toList = es.toList.eraseIdx j := by
      unfold Array.eraseIdxIfInBounds
      rw [dif_pos hjs]
      simp
    refine ⟨setBlock w b (.map (es.eraseIdxIfInBounds j) clock), ?_, ⟨_, clock, M.eraseIdx j, (heap_set h1).1, stamped_erase h2 j, ?_, ?_⟩, setBlock_but h1, by simp [setBlock]⟩
    · simp [Builtin.delete_, run_underlying ht, MapKept.run_getObj_map h1, S.check w, f1, MapKept.run_setObj_map _ h1, Result.andThen, setBlock]
    · rw [hsub, ChangeMaps.map_eraseIdx, ChangeMaps.map_eraseIdx, h3]
    · have e1 : M[j] = p := by rw [List.getElem?_eq_getElem hjM] at q1; exact Option.some.inj q1
      have e2 := offL_at hkM hjM
      rw [e1, hpx] at e2
      rw [List.eraseIdx_eq_take_drop_succ, ← e2]
      exact e3

/-- 'len(m)'. -/
theorem KMap.len {t : TypeId} {w : World} {b : Nat} {L : List (K × V)} (h : KMap ek ev w b L) (ht : P.underlying t = some (.map k e)) (ty : TypeId) : (Builtin.len_ #[t] ty #[.map (some b)]).run P w = .ok (.int .i64 (L.length : Int)) w := by
  obtain ⟨es, clock, M, h1, h2, h3, h4⟩ := h
  have e1 : es.size = L.length := by
    have := congrArg List.length h3
    simp only [List.length_map, Array.length_toList] at this
    rw [this, h4.length_eq]
  rw [← e1]
  simp [Builtin.len_, run_underlying ht, MapKept.run_getObj_map h1, goInt, Result.andThen]

/-- 'make(map[K]V)'. -/
theorem KMap.made (w : World) : KMap ek ev (w.alloc (.map #[] 0)) w.heap.size [] :=
  ⟨#[], 0, [], (MapKept.heap_alloc w _).1, stamped_empty 0, rfl, List.Perm.nil⟩

/-- 'range m'. -/
theorem KMap.range {t : TypeId} {w : World} {b : Nat} {L : List (K × V)} (h : KMap ek ev w b L) (ht : P.underlying t = some (.map k e)) :
    ∃ w', (Instr.range t (.map (some b))).run P w = .ok (.pointer (some ⟨w.heap.size, 0, none⟩)) w' ∧ KRange ek ev w' b w.heap.size L L ∧ Below w.heap.size w w' ∧ w'.heap.size = w.heap.size + 1 := by
  have hlt := h.lt
  obtain ⟨es, clock, M, h1, h2, h3, h4⟩ := h
  refine ⟨_, run_range_map w t k e b es clock ht h1, ⟨es, clock, clock, #[], clock, M, M, ((MapKept.heap_alloc w _).2 b hlt).trans h1, h2, h3, h4, (MapKept.heap_alloc w _).1, h2.1, Nat.le_refl _, Nat.le_refl _, ?_, h4⟩, (Below.refl _ _).alloc (Nat.le_refl _) _, by simp⟩
  rw [← h3]
  unfold leftOf
  rw [show (es.filter fun e => !(#[] : Array Nat).contains e.born) = es from Array.filter_eq_self.2 fun x _ => by simp]

/-- The step. -/
theorem KRange.next {w : World} {b r : Nat} {L todo : List (K × V)} (h : KRange ek ev w b r L todo) (ty : TypeId) :
    (todo = [] ∧ (Instr.next (.pointer (some ⟨r, 0, none⟩)) false ty).run P w = .ok (.tuple #[.bool false]) w) ∨
    ∃ p todo' w', todo.Perm (p :: todo') ∧ (Instr.next (.pointer (some ⟨r, 0, none⟩)) false ty).run P w = .ok (.tuple #[.bool true, ek p.1, ev p.2]) w' ∧
      KRange ek ev w' b r L todo' ∧ But (fun i => i = r) w w' ∧ w'.heap.size = w.heap.size ∧ (Instr.entry (.pointer (some ⟨r, 0, none⟩))).run P w' = .ok (.tuple #[ek p.1, ev p.2]) w' := by
  obtain ⟨es, clock, since, seen, c0, M, T, h1, h2, h3, h4, h5, h6, h7, h8, h9, h10⟩ := h
  have hne : r ≠ b := fun e1 => by rw [e1, h1] at h5; cases h5
  rcases run_next_at (P := P) w ty r b since c0 seen es clock h5 h1 h6 h7 with ⟨h0, hrun⟩ | ⟨x, hx, w1, hal, hrun⟩
  · refine Or.inl ⟨?_, hrun⟩
    have : T.length = 0 := by
      have := congrArg List.length h9
      simp only [List.length_map, Array.length_toList] at this
      omega
    rw [List.length_eq_zero_iff.1 this] at h10
    exact h10.nil_eq.symm
  · obtain ⟨hem, hes⟩ := mem_left hx
    obtain ⟨j, hj, hjx⟩ := List.getElem_of_mem hx
    have hTl : T.length = (leftOf es seen).toList.length := by have := congrArg List.length h9; simp only [List.length_map] at this; omega
    obtain ⟨p, q1, q2, q3⟩ := entry_shape h9 (show (leftOf es seen).toList[j]? = some x by rw [List.getElem?_eq_getElem hj, hjx])
    have hr1 : w1.heap[r]? = some (.mapIter (some b) since seen c0) := by rcases hal with rfl | rfl <;> exact h5
    have hb1 : w1.heap[b]? = some (.map es clock) := by rcases hal with rfl | rfl <;> exact h1
    have hset := heap_set (o' := .mapIter (some b) since (seen.push x.born) clock) hr1
    have hb' : (setBlock w1 r (.mapIter (some b) since (seen.push x.born) clock)).heap[b]? = some (.map es clock) := (hset.2 b (fun e1 => hne e1.symm)).trans hb1
    have hborn : ((leftOf es seen).toList.map (·.born)).Nodup := by
      have hsl : (leftOf es seen).toList.Sublist es.toList := by
        unfold leftOf
        rw [Array.toList_filter]
        exact List.filter_sublist
      exact (hsl.map _).nodup h2.2.1
    have hleft : (leftOf es (seen.push x.born)).toList = (leftOf es seen).toList.take j ++ (leftOf es seen).toList.drop (j + 1) := by
      have e1 : (leftOf es (seen.push x.born)).toList = (leftOf es seen).toList.filter (fun y => !(y.born == x.born)) := by
        unfold leftOf
        rw [Array.toList_filter, Array.toList_filter, List.filter_filter]
        refine List.filter_congr fun y _ => ?_
        rw [contains_push]
        cases seen.contains y.born <;> cases (y.born == x.born) <;> rfl
      have e2 := offL_at (L := (leftOf es seen).toList.map fun y => (y.born, y)) (by rw [List.map_map]; exact hborn) (j := j) (by simpa using hj)
      unfold offL at e2
      rw [List.filter_map, ← List.map_take, ← List.map_drop, ← List.map_append] at e2
      have e3 := congrArg (List.map Prod.snd) e2
      simp only [List.map_map, Function.comp_def, List.map_id'] at e3
      rw [e1, ← e3]
      refine List.filter_congr fun y _ => ?_
      simp only [List.getElem_map, hjx]
      by_cases hq : y.born = x.born <;> simp [hq]
    have hjT : j < T.length := by omega
    have hTj : T[j] = p := by rw [List.getElem?_eq_getElem hjT] at q1; exact Option.some.inj q1
    have hTs : T.Perm (p :: (T.take j ++ T.drop (j + 1))) := by
      have : T = T.take j ++ p :: T.drop (j + 1) := by rw [← hTj]; simp
      exact (List.Perm.of_eq this).trans List.perm_middle
    refine Or.inr ⟨p, T.take j ++ T.drop (j + 1), _, h10.symm.trans hTs, by rw [← q2, ← q3]; exact hrun,
      ⟨es, clock, since, seen.push x.born, clock, M, _, hb', h2, h3, h4, hset.1, h6, h8, h8, ?_, List.Perm.refl _⟩, ?_, ?_, by
        rw [← q2, ← q3]
        exact run_entry_at _ r b since seen es clock x hset.1 hb' hem ((stamped_iff es clock).1 h2).2.1⟩
    · rw [hleft, List.map_append, List.map_append, List.map_take, List.map_drop, List.map_take, List.map_drop, h9]
    · rcases hal with rfl | rfl <;> exact ⟨rfl, rfl, rfl, by simp [setBlock], fun i _ hi => hset.2 i hi⟩
    · rcases hal with rfl | rfl <;> simp [setBlock]

/-! ### at the operation -/

/-- 'v, ok := m[k]'. -/
theorem wpList_k_look_ok [DecidableEq K] (S : KShape P k ek) {w : World} {ops : Array Oper} {rest : List Oper} {o : Oper} {a : Act} {Q : Exit → Act → World → Prop} (hg : o.guard = none) (m x : Operand) (t : TypeId)
    (hop : o.op = Op.lookup t m x true) (ht : P.underlying t = some (.map k e)) (zv : V) (hz : (zeroValue e).run P w = .ok (ev zv) w) (b : Nat) (L : List (K × V)) (hm : a.eval m = .map (some b)) (h : KMap ek ev w b L) (key : K) (hx : a.eval x = ek key)
    (hK : ∀ v, v = (lookL L key).getD zv → wpList P ops Q rest (a.put o.dst (.tuple #[ev v, .bool (lookL L key).isSome])) w) : wpList P ops Q (o :: rest) a w := by
  refine wpList_plain hg fun K' hK' => ?_
  have hrun := h.look S ht hz key true
  rw [if_pos rfl, show ((lookL L key).map ev).getD (ev zv) = ev ((lookL L key).getD zv) by cases lookL L key <;> rfl] at hrun
  unfold Oper.wp
  simp [execOp, hop, hm, hx, hrun, Result.andThen]
  exact hK' _ _ (hK _ rfl)

/-- 'm[k]'. -/
theorem wpList_k_look [DecidableEq K] (S : KShape P k ek) {w : World} {ops : Array Oper} {rest : List Oper} {o : Oper} {a : Act} {Q : Exit → Act → World → Prop} (hg : o.guard = none) (m x : Operand) (t : TypeId)
    (hop : o.op = Op.lookup t m x false) (ht : P.underlying t = some (.map k e)) (zv : V) (hz : (zeroValue e).run P w = .ok (ev zv) w) (b : Nat) (L : List (K × V)) (hm : a.eval m = .map (some b)) (h : KMap ek ev w b L) (key : K) (hx : a.eval x = ek key)
    (hK : ∀ v, v = (lookL L key).getD zv → wpList P ops Q rest (a.put o.dst (ev v)) w) : wpList P ops Q (o :: rest) a w := by
  refine wpList_plain hg fun K' hK' => ?_
  have hrun := h.look S ht hz key false
  rw [if_neg (by decide), show ((lookL L key).map ev).getD (ev zv) = ev ((lookL L key).getD zv) by cases lookL L key <;> rfl] at hrun
  unfold Oper.wp
  simp [execOp, hop, hm, hx, hrun, Result.andThen]
  exact hK' _ _ (hK _ rfl)

/-- 'm[k] = v'. -/
theorem wpList_k_store [DecidableEq K] (S : KShape P k ek) {w : World} {ops : Array Oper} {rest : List Oper} {o : Oper} {a : Act} {Q : Exit → Act → World → Prop} (hg : o.guard = none) (m x v : Operand) (t : TypeId)
    (hop : o.op = Op.mapUpdate t m x v) (ht : P.underlying t = some (.map k e)) (b : Nat) (L : List (K × V)) (hm : a.eval m = .map (some b)) (h : KMap ek ev w b L) (key : K) (hx : a.eval x = ek key) (val : V) (hv : a.eval v = ev val)
    (hK : ∀ w', Hid (KMap ek ev w' b ((key, val) :: offL L key)) → Hid (But (fun i => i = b) w w') → Hid (w'.heap.size = w.heap.size) → wpList P ops Q rest (a.put o.dst undef) w') : wpList P ops Q (o :: rest) a w := by
  refine wpList_plain hg fun K' hK' => ?_
  obtain ⟨w', hrun, r1, r2, r3⟩ := h.store S ht key val
  unfold Oper.wp
  simp [execOp, hop, hm, hx, hv, hrun, Result.andThen]
  exact hK' _ _ (hK w' r1 r2 r3)

/-- 'delete(m, k)'. -/
theorem wpList_k_drop [DecidableEq K] (S : KShape P k ek) {w : World} {ops : Array Oper} {rest : List Oper} {o : Oper} {a : Act} {Q : Exit → Act → World → Prop} (hg : o.guard = none) (m x : Operand) (t : TypeId)
    (hop : o.op = Op.call { callee := Callee.builtin Builtin.delete, args := #[m, x], argTypes := #[t, k] }) (ht : P.underlying t = some (.map k e)) (b : Nat) (L : List (K × V)) (hm : a.eval m = .map (some b)) (h : KMap ek ev w b L) (key : K) (hx : a.eval x = ek key)
    (hK : ∀ w', Hid (KMap ek ev w' b (offL L key)) → Hid (But (fun i => i = b) w w') → Hid (w'.heap.size = w.heap.size) → wpList P ops Q rest (a.put o.dst (.tuple #[])) w') : wpList P ops Q (o :: rest) a w := by
  refine wpList_plain hg fun K' hK' => ?_
  obtain ⟨w', hrun, r1, r2, r3⟩ := h.drop S ht key o.type
  unfold Oper.wp
  simp [execOp, hop, resolve, invoke, builtin, hm, hx, hrun, Result.andThen]
  exact hK' _ _ (hK w' r1 r2 r3)

/-- 'len(m)'. -/
theorem wpList_k_len {w : World} {ops : Array Oper} {rest : List Oper} {o : Oper} {a : Act} {Q : Exit → Act → World → Prop} (hg : o.guard = none) (m : Operand) (t : TypeId)
    (hop : o.op = Op.call { callee := Callee.builtin Builtin.len, args := #[m], argTypes := #[t] }) (ht : P.underlying t = some (.map k e)) (b : Nat) (L : List (K × V)) (hm : a.eval m = .map (some b)) (h : KMap ek ev w b L)
    (hK : wpList P ops Q rest (a.put o.dst (.int .i64 (L.length : Int))) w) : wpList P ops Q (o :: rest) a w := by
  refine wpList_plain hg fun K' hK' => ?_
  have hrun := h.len (P := P) ht o.type
  unfold Oper.wp
  simp [execOp, hop, resolve, invoke, builtin, hm, hrun, Result.andThen]
  exact hK' _ _ hK

/-- 'range m'. -/
theorem wpList_k_range {w : World} {ops : Array Oper} {rest : List Oper} {o : Oper} {a : Act} {Q : Exit → Act → World → Prop} (hg : o.guard = none) (m : Operand) (t : TypeId)
    (hop : o.op = Op.range t m) (ht : P.underlying t = some (.map k e)) (b : Nat) (L : List (K × V)) (hm : a.eval m = .map (some b)) (h : KMap ek ev w b L)
    (hK : ∀ w', Hid (KRange ek ev w' b w.heap.size L L) → Hid (Below w.heap.size w w') → Hid (w'.heap.size = w.heap.size + 1) → wpList P ops Q rest (a.put o.dst (.pointer (some ⟨w.heap.size, 0, none⟩))) w') : wpList P ops Q (o :: rest) a w := by
  refine wpList_plain hg fun K' hK' => ?_
  obtain ⟨w', hrun, r1, r2, r3⟩ := h.range (P := P) ht
  unfold Oper.wp
  simp [execOp, hop, hm, hrun, Result.andThen]
  exact hK' _ _ (hK w' r1 r2 r3)

/-- The step. -/
theorem wpList_k_next {w : World} {ops : Array Oper} {rest : List Oper} {o : Oper} {a : Act} {Q : Exit → Act → World → Prop} (hg : o.guard = none) (it : Operand) (hop : o.op = Op.next it false)
    (b r : Nat) (L todo : List (K × V)) (hit : a.eval it = .pointer (some ⟨r, 0, none⟩)) (h : KRange ek ev w b r L todo)
    (hDone : todo = [] → wpList P ops Q rest (a.put o.dst (.tuple #[.bool false])) w)
    (hMore : ∀ (p : K × V) (todo' : List (K × V)) (w' : World), Hid (todo.Perm (p :: todo')) → Hid (KRange ek ev w' b r L todo') → Hid (But (fun i => i = r) w w') → Hid (w'.heap.size = w.heap.size) →
      (Instr.entry (.pointer (some ⟨r, 0, none⟩))).run P w' = .ok (.tuple #[ek p.1, ev p.2]) w' → wpList P ops Q rest (a.put o.dst (.tuple #[.bool true, ek p.1, ev p.2])) w') :
    wpList P ops Q (o :: rest) a w := by
  refine wpList_plain hg fun K' hK' => ?_
  unfold Oper.wp
  rcases h.next (P := P) o.type with ⟨h0, hrun⟩ | ⟨p, todo', w', hp, hrun, hr, hb, hs, hen⟩
  · simp [execOp, hop, hit, hrun, Result.andThen]
    exact hK' _ _ (hDone h0)
  · simp [execOp, hop, hit, hrun, Result.andThen]
    exact hK' _ _ (hMore p todo' w' hp hr hb hs hen)

end
end Go.Proofs.YtoobmkkmomiigaaGreat

/-
  Stamps as a map's keys.
-/
namespace Go.Proofs.YtoobmkkmomiigaaGreat
open Go.RowKit StampMath GraphMath

def stV (x : St) : Value := .agg (stA x)

theorem stV_inj (x y : St) (h : stV x = stV y) : x = y := by
  unfold stV stA at h
  simp at h
  exact Prod.ext h.1 h.2

theorem checkKey_st (w : World) (em : Bool) (n : Nat) (x : St) : (Instr.checkKey em (n + 2) 31 (.agg (stA x))).run Tryz.prog w = .ok () w := by
  refine checkKey_struct (n := n + 1) Tryz.underlying31 w em (stA x) fun f hf => ?_
  simp at hf
  rcases hf with rfl | rfl
  · exact ⟨by decide, .int .i64 x.1, by unfold stA; go_simp, checkKey_int Tryz.underlying2 w em n x.1⟩
  · exact ⟨by decide, .int .i64 x.2, by unfold stA; go_simp, checkKey_int Tryz.underlying3 w em n x.2⟩

theorem stShape : KShape Tryz.prog 31 stV :=
  KShape.of_equal (by kernel_rfl) stV_inj (fun w x y => run_eqSt x.1 x.2 y.1 y.2 w) (fun w em x => checkKey_st w em 9998 x) (fun x => by
    unfold stV stA
    show Instr.sameBits (9999 + 1) _ _ = true
    simp [Instr.sameBits])

end Go.Proofs.YtoobmkkmomiigaaGreat

/-
  Maps of any shape: 'm[k]++' and 'm[k] = append(m[k], ..)': an entry is laid, then stored into.
-/
namespace Go.Proofs.YtoobmkkmomiigaaGreat
open Go.RowKit Go.MapKept
open Go.ChangeMaps (setBlock)

section
variable {K V : Type} {ek : K → Value} {ev : V → Value} {P : Program} {k e : TypeId}

theorem entry_parts (S : KShape P k ek) {t : TypeId} {w : World} {b : Nat} {es : Array MapEntry} {clock : Nat} (ht : P.underlying t = some (.map k e)) {z : Value} (hz : ∀ u : World, (zeroValue e).run P u = .ok z u) (hb : w.heap[b]? = some (.map es clock)) (hs : Stamped es clock) (hall : ∀ e ∈ es.toList, ∃ y, e.key = ek y) (x : K) :
    ∃ (v0 : Value) (st : Nat) (es1 : Array MapEntry) (clock1 : Nat), (Instr.mapEntry t (.map (some b)) (ek x)).run P w = .ok (.tuple #[v0, goInt st]) (setBlock w b (.map es1 clock1)) ∧
      ((∃ e0 ∈ es.toList, e0.key = ek x ∧ v0 = e0.val) ∨ ((∀ x' ∈ es.toList, x'.key ≠ ek x) ∧ v0 = z)) ∧ (Instr.mapUpdate t (.map (some b)) (ek x) v0).run P w = .ok () (setBlock w b (.map es1 clock1)) ∧
      ∀ (w2 : World) (val : Value), w2.heap[b]? = some (.map es1 clock1) → ∃ es' clock', (Instr.entryStore t (.map (some b)) (goInt st) val).run P w2 = .ok () (setBlock w2 b (.map es' clock')) ∧
        (Instr.mapUpdate t (.map (some b)) (ek x) val).run P w = .ok () (setBlock w b (.map es' clock')) := by
  obtain ⟨s1, s2, _⟩ := hs
  rcases S.find w x es.toList hall with ⟨h1, h2⟩ | ⟨j, e0, h1, h2, h3⟩
  · refine ⟨z, clock, es.push ⟨ek x, z, clock⟩, clock + 1, ?_, Or.inr ⟨h2, rfl⟩, ?_, fun w2 val hw2 => ⟨es.push ⟨ek x, val, clock⟩, clock + 1, ?_, ?_⟩⟩
    · simp [Instr.mapEntry, run_underlying ht, MapKept.run_getObj_map hb, S.check w, h1, hz, MapKept.run_setObj_map _ hb, Result.andThen, setBlock]
    · simp [Instr.mapUpdate, run_underlying ht, MapKept.run_getObj_map hb, S.check w, h1, MapKept.run_setObj_map _ hb, Result.andThen, setBlock]
    · have hidx : (es.push ⟨ek x, z, clock⟩).findIdx? (fun e => ((e.born : Nat) : Int) == ((clock : Nat) : Int)) = some es.size := by
        rw [WideElems.findIdx_arr]
        have := WideElems.findIdx_born (l := (es.push ⟨ek x, z, clock⟩).toList) (j := es.size) (e0 := ⟨ek x, z, clock⟩) (by
          simp only [Array.toList_push, List.map_append, List.map_cons, List.map_nil]
          refine List.nodup_append.2 ⟨s2, by simp, fun a ha c hc e1 => ?_⟩
          simp only [List.mem_singleton] at hc
          obtain ⟨x, hx, rfl⟩ := List.mem_map.1 ha
          have := s1 x hx
          omega) (by simp)
        exact this
      have hmod : (es.push ⟨ek x, z, clock⟩).modify es.size (fun e => { e with val := val }) = es.push ⟨ek x, val, clock⟩ := by
        apply Array.ext'
        rw [Array.toList_modify, Array.toList_push, Array.toList_push, ← Array.length_toList, WideElems.modify_last]
      simp [Instr.entryStore, MapKept.run_getObj_map hw2, asInt, asIntOf, goInt, hidx, hmod, MapKept.run_setObj_map _ hw2, Result.andThen, setBlock]
    · simp [Instr.mapUpdate, run_underlying ht, MapKept.run_getObj_map hb, S.check w, h1, MapKept.run_setObj_map _ hb, Result.andThen, setBlock]
  · have hj : es[j]? = some e0 := by simpa using h2
    have hsame : es.modify j (fun e => { e with key := ek x }) = es := by
      apply Array.ext'
      rw [Array.toList_modify, ChangeMaps.modify_eq_set _ _ _ _ h2]
      have : ({ e0 with key := ek x } : MapEntry) = e0 := by rw [← h3]
      rw [this]
      exact WideElems.set_self _ _ _ h2
    have hsame2 : es.modify j (fun e => { e with key := ek x, val := e0.val }) = es := by
      apply Array.ext'
      rw [Array.toList_modify, ChangeMaps.modify_eq_set _ _ _ _ h2]
      have : ({ e0 with key := ek x, val := e0.val } : MapEntry) = e0 := by rw [← h3]
      rw [this]
      exact WideElems.set_self _ _ _ h2
    refine ⟨e0.val, e0.born, es, clock, ?_, Or.inl ⟨e0, List.mem_of_getElem? h2, h3, rfl⟩, ?_, fun w2 val hw2 => ⟨es.modify j (fun e' => { e' with key := ek x, val := val }), clock, ?_, ?_⟩⟩
    · simp [Instr.mapEntry, run_underlying ht, MapKept.run_getObj_map hb, S.check w, h1, hj, h3, S.stays w, hsame, MapKept.run_setObj_map _ hb, Result.andThen, setBlock]
    · simp [Instr.mapUpdate, run_underlying ht, MapKept.run_getObj_map hb, S.check w, h1, hj, h3, S.stays w, hsame2, MapKept.run_setObj_map _ hb, Result.andThen, setBlock]
    · have hidx : es.findIdx? (fun e => ((e.born : Nat) : Int) == ((e0.born : Nat) : Int)) = some j := by
        rw [WideElems.findIdx_arr]
        exact WideElems.findIdx_born s2 h2
      have hmod : es.modify j (fun e => { e with val := val }) = es.modify j (fun e' => { e' with key := ek x, val := val }) := by
        apply Array.ext'
        rw [Array.toList_modify, Array.toList_modify, ChangeMaps.modify_eq_set _ _ _ _ h2, ChangeMaps.modify_eq_set _ _ _ _ h2, ← h3]
      simp [Instr.entryStore, MapKept.run_getObj_map hw2, asInt, asIntOf, goInt, hidx, hmod, MapKept.run_setObj_map _ hw2, Result.andThen, setBlock]
    · simp [Instr.mapUpdate, run_underlying ht, MapKept.run_getObj_map hb, S.check w, h1, hj, h3, S.stays w, MapKept.run_setObj_map _ hb, Result.andThen, setBlock]

variable (ek ev P) in
/-- The entry of the key x lies in the map's block: what is stored into it makes this map. -/
def KSlot [DecidableEq K] (t : TypeId) (W : World) (b : Nat) (L : List (K × V)) (x : K) (st : Nat) : Prop :=
  ∀ (W2 : World), W2.heap[b]? = W.heap[b]? → ∀ val : V, ∃ W3, (Instr.entryStore t (.map (some b)) (.int .i64 (st : Int)) (ev val)).run P W2 = .ok () W3 ∧ KMap ek ev W3 b ((x, val) :: offL L x) ∧ But (fun i => i = b) W2 W3 ∧ W3.heap.size = W2.heap.size

theorem KMap.entry [DecidableEq K] (S : KShape P k ek) {t : TypeId} {w : World} {b : Nat} {L : List (K × V)} (h : KMap ek ev w b L) (ht : P.underlying t = some (.map k e)) (zv : V) (hz : ∀ u : World, (zeroValue e).run P u = .ok (ev zv) u) (x : K) :
    ∃ (st : Nat) (w1 : World), (Instr.mapEntry t (.map (some b)) (ek x)).run P w = .ok (.tuple #[ev ((lookL L x).getD zv), .int .i64 (st : Int)]) w1 ∧ KMap ek ev w1 b ((x, (lookL L x).getD zv) :: offL L x) ∧ But (fun i => i = b) w w1 ∧ w1.heap.size = w.heap.size ∧ KSlot ek ev P t w1 b L x st := by
  have hup := fun v => h.store S ht x v
  obtain ⟨es, clock, M, h1, h2, h3, h4⟩ := h
  have hkM := keys_of h2 h3
  obtain ⟨v0, st, es1, clock1, r1, hv, r2, r3⟩ := entry_parts S ht hz h1 h2 (all_shape h3) x
  have hv0 : v0 = ev ((lookL L x).getD zv) := by
    rw [← lookL_perm h4 hkM]
    rcases hv with ⟨e0, he0, hk0, rfl⟩ | ⟨hn, rfl⟩
    · obtain ⟨j, hj, rfl⟩ := List.getElem_of_mem he0
      obtain ⟨p, q1, q2, q3⟩ := entry_shape h3 (List.getElem?_eq_getElem hj)
      have hpx : p.1 = x := S.inj _ _ (q2.symm.trans hk0)
      have : lookL M x = some p.2 := (mem_lookL hkM).2 (by rw [← hpx]; exact List.mem_of_getElem? q1)
      rw [this, q3]
      rfl
    · have hno : lookL M x = none := lookL_none fun p hp e1 => by
        obtain ⟨j, hj, rfl⟩ := List.getElem_of_mem hp
        have hl : j < es.toList.length := by have := congrArg List.length h3; simp only [List.length_map] at this; omega
        obtain ⟨p', q1, q2, _⟩ := entry_shape h3 (List.getElem?_eq_getElem hl)
        rw [List.getElem?_eq_getElem hj] at q1
        have := Option.some.inj q1
        subst this
        exact hn _ (List.getElem_mem hl) (by rw [q2, e1])
      rw [hno]
      rfl
  subst hv0
  obtain ⟨w', s1, s2, s3, s4⟩ := hup ((lookL L x).getD zv)
  rw [r2] at s1
  cases s1
  refine ⟨st, _, r1, s2, s3, s4, fun W2 hW2 val => ?_⟩
  have hW2' := hW2.trans (heap_set (o' := .map es1 clock1) h1).1
  obtain ⟨es', clock', t1, t2⟩ := r3 W2 (ev val) hW2'
  obtain ⟨w'', u1, u2, u3, u4⟩ := hup val
  rw [t2] at u1
  cases u1
  refine ⟨_, t1, u2.kept ?_, setBlock_but hW2', by simp [setBlock]⟩
  show (setBlock W2 b (.map es' clock')).heap[b]? = (setBlock w b (.map es' clock')).heap[b]?
  exact (heap_set hW2').1.trans (heap_set h1).1.symm

/-- An entry is laid. -/
theorem wpList_k_entry [DecidableEq K] (S : KShape P k ek) {w : World} {ops : Array Oper} {rest : List Oper} {o : Oper} {a : Act} {Q : Exit → Act → World → Prop} (hg : o.guard = none) (m x : Operand) (t : TypeId)
    (hop : o.op = Op.mapEntry t m x) (ht : P.underlying t = some (.map k e)) (zv : V) (hz : ∀ u : World, (zeroValue e).run P u = .ok (ev zv) u) (b : Nat) (L : List (K × V)) (hm : a.eval m = .map (some b)) (h : KMap ek ev w b L) (key : K) (hx : a.eval x = ek key)
    (hK : ∀ (v : V) (st : Nat) (w' : World), v = (lookL L key).getD zv → Hid (KMap ek ev w' b ((key, v) :: offL L key)) → Hid (But (fun i => i = b) w w') → Hid (w'.heap.size = w.heap.size) → Hid (KSlot ek ev P t w' b L key st) → wpList P ops Q rest (a.put o.dst (.tuple #[ev v, .int .i64 (st : Int)])) w') : wpList P ops Q (o :: rest) a w := by
  refine wpList_plain hg fun K' hK' => ?_
  obtain ⟨st, w', hrun, r1, r2, r3, r4⟩ := h.entry S ht zv hz key
  unfold Oper.wp
  simp [execOp, hop, hm, hx, hrun, Result.andThen]
  exact hK' _ _ (hK _ st w' rfl r1 r2 r3 r4)

/-- .. and stored into. -/
theorem wpList_k_entryStore [DecidableEq K] {w : World} {ops : Array Oper} {rest : List Oper} {o : Oper} {a : Act} {Q : Exit → Act → World → Prop} (hg : o.guard = none) (m s v : Operand) (t : TypeId)
    (hop : o.op = Op.entryStore t m s v) (b : Nat) (L : List (K × V)) (hm : a.eval m = .map (some b)) (key : K) (st : Nat) (W : World) (h : KSlot ek ev P t W b L key st) (hW : w.heap[b]? = W.heap[b]?) (hs : a.eval s = .int .i64 (st : Int)) (val : V) (hv : a.eval v = ev val)
    (hK : ∀ w', Hid (KMap ek ev w' b ((key, val) :: offL L key)) → Hid (But (fun i => i = b) w w') → Hid (w'.heap.size = w.heap.size) → wpList P ops Q rest (a.put o.dst undef) w') : wpList P ops Q (o :: rest) a w := by
  refine wpList_plain hg fun K' hK' => ?_
  obtain ⟨w', hrun, r1, r2, r3⟩ := h w hW val
  unfold Oper.wp
  simp [execOp, hop, hm, hs, hv, hrun, Result.andThen]
  exact hK' _ _ (hK w' r1 r2 r3)

end
end Go.Proofs.YtoobmkkmomiigaaGreat

/-
  The walks of stamp's isRep and May.
-/
namespace Go.Proofs.YtoobmkkmomiigaaGreat
open Go.RowKit StampMath PackMath

theorem isRep_any (r : Int) (w : World) :
    Calls Tryz.prog 32 #[.int .i64 r] w fun e w' => e = .returned (.bool (decide (0 ≤ r) && decide (r < 8))) ∧ w = w' := by
  have hcase : (decide (0 ≤ r) = false) ∨ 0 ≤ r := by
    by_cases h : 0 ≤ r
    · exact Or.inr h
    · exact Or.inl (by simp; omega)
  rcases hcase with h | h
  all_goals
    go_enter Tryz.func32, Tryz.ntmps32
    go_wp2_with fail
    go_ret
    exact ⟨by simp [h], rfl⟩

set_option maxHeartbeats 400000 in
theorem may_any (t r : Int) (w : World) :
    Calls Tryz.prog 14 #[.agg #[.int .i64 t, .int .i64 r]] w fun e w' => e = .returned (.bool (mayB t r)) ∧ Below w.heap.size w w' := by
  have hcase : ((t == 0) = true ∧ mayB t r = (r == 0)) ∨ ((t == 0) = false ∧ decide (0 < t) = false ∧ mayB t r = false) ∨ ((t == 0) = false ∧ 0 < t ∧ decide (t ≤ 1073741824) = false ∧ mayB t r = false) ∨
      ((t == 0) = false ∧ 0 < t ∧ t ≤ 1073741824 ∧ mayB t r = (decide (0 ≤ r) && decide (r < 8))) := by
    unfold mayB
    by_cases h0 : t = 0
    · exact Or.inl ⟨by simp [h0], by rw [if_pos h0]⟩
    · rw [if_neg h0]
      by_cases h1 : 0 < t
      · by_cases h2 : t ≤ 1073741824
        · refine Or.inr (Or.inr (Or.inr ⟨by simp [h0], h1, h2, ?_⟩))
          have e1 : decide (1 ≤ t) = true := by simp; omega
          have e2 : decide (r ≤ 7) = decide (r < 8) := by rw [decide_eq_decide]; omega
          rw [e1, e2]
          simp [h2]
        · exact Or.inr (Or.inr (Or.inl ⟨by simp [h0], h1, by simp; omega, by simp [h2]⟩))
      · exact Or.inr (Or.inl ⟨by simp [h0], by simp; omega, by simp; omega⟩)
  rcases hcase with ⟨h0, h⟩ | ⟨h0, h1, h⟩ | ⟨h0, h1, h2, h⟩ | ⟨h0, h1, h2, h⟩
  · have H := Lib.hid h
    clear h
    go_enter Tryz.func14, Tryz.ntmps14
    go_wp2_with fail
    go_ret
    exact ⟨by rw [H.out]; rfl, (Below.refl _ _).alloc (Nat.le_refl _) _⟩
  · have H := Lib.hid h
    clear h
    go_enter Tryz.func14, Tryz.ntmps14
    go_wp2_with fail
    go_ret
    exact ⟨by rw [H.out]; rfl, (Below.refl _ _).alloc (Nat.le_refl _) _⟩
  · have H := Lib.hid h
    clear h
    go_enter Tryz.func14, Tryz.ntmps14
    go_wp2_with fail
    go_ret
    exact ⟨by rw [H.out]; rfl, (Below.refl _ _).alloc (Nat.le_refl _) _⟩
  · have H := Lib.hid h
    clear h
    go_enter Tryz.func14, Tryz.ntmps14
    go_wp2_with fail
    refine (isRep_any _ _).mono ?_
    rintro e w' ⟨rfl, rfl⟩
    go_wp2_with fail
    go_ret
    exact ⟨by rw [H.out]; rfl, (Below.refl _ _).alloc (Nat.le_refl _) _⟩

end Go.Proofs.YtoobmkkmomiigaaGreat

/-
  The walk of op's Name.
-/
namespace Go.Proofs.YtoobmkkmomiigaaGreat
open Go.RowKit OpMath

set_option maxRecDepth 100000 in
theorem code_index (s : ByteArray) (c : Int) (w : World) :
    Calls Tryz.prog 96 #[.string s, .int .u8 c] w fun e w' => e = .returned (.int .i64 (Lib.indexByte s.data.toList c.toNat.toUInt8)) ∧ w = w' := by
  go_enter Tryz.func96, Tryz.ntmps96
  go_wp2
  rw [run_callFunc_extern Tryz.func105 (by kernel_rfl) (by kernel_rfl) (by kernel_rfl) (e := Extern.BytealgIndexByte.indexByte) (by kernel_rfl), Lib.run_indexByteString]
  simp only [Result.andThen]
  rw [Oper.upon_value]
  go_wp2
  go_ret
  exact ⟨rfl, rfl⟩

theorem code_index2 (s : ByteArray) (c : Int) (w : World) :
    Calls Tryz.prog 76 #[.string s, .int .u8 c] w fun e w' => e = .returned (.int .i64 (Lib.indexByte s.data.toList c.toNat.toUInt8)) ∧ w = w' := by
  go_enter Tryz.func76, Tryz.ntmps76
  go_wp2_with fail
  refine (code_index _ _ _).mono ?_
  rintro e w' ⟨rfl, rfl⟩
  go_wp2_with fail
  go_ret
  exact ⟨rfl, rfl⟩

theorem index_any (l : List UInt8) (c : UInt8) : decide (0 ≤ Lib.indexByte l c) = l.any (· == c) := by
  induction l with
  | nil => rfl
  | cons b l ih =>
    unfold Lib.indexByte
    rw [List.any_cons]
    by_cases hb : (b == c) = true
    · rw [if_pos hb, hb]; rfl
    · rw [if_neg hb, Bool.eq_false_iff.2 hb, Bool.false_or, ← ih]
      have hge := Lib.indexByte_ge l c
      by_cases h : (Lib.indexByte l c == -1) = true
      · rw [if_pos h]
        rw [beq_iff_eq.1 h]
      · rw [if_neg h]
        have hne : Lib.indexByte l c ≠ -1 := fun e => h (by rw [e]; rfl)
        rw [decide_eq_decide]
        omega

theorem hasByte_any (s : ByteArray) (c : Int) (w : World) :
    Calls Tryz.prog 63 #[.string s, .int .u8 c] w fun e w' => e = .returned (.bool (hasB s c.toNat.toUInt8)) ∧ w = w' := by
  go_enter Tryz.func63, Tryz.ntmps63
  go_wp2_with fail
  refine (code_index2 _ _ _).mono ?_
  rintro e w' ⟨rfl, rfl⟩
  go_wp2_with fail
  go_ret
  exact ⟨congrArg (fun b => Ending.returned (.bool b)) (index_any s.data.toList c.toNat.toUInt8), rfl⟩

theorem name_any (s : ByteArray) (hs : s.size ≤ maxLen) (w : World) :
    Calls Tryz.prog 33 #[.string s] w fun e w' => e = .returned (.bool (nameB s)) ∧ w = w' := by
  have hs' : s.size ≤ 9223372036854775807 := by unfold maxLen at hs; omega
  clear hs
  have HZ : Hid (∀ W : World, Calls Tryz.prog 63 #[.string s, .int .u8 0] W fun e w' => e = .returned (.bool (hasB s 0)) ∧ W = w') := fun W => hasByte_any s 0 W
  have HL : Hid (∀ W : World, Calls Tryz.prog 63 #[.string s, .int .u8 47] W fun e w' => e = .returned (.bool (hasB s 47)) ∧ W = w') := fun W => hasByte_any s 47 W
  have HN : Hid (nameB s = (decide (1 ≤ s.size) && decide (s.size ≤ 8) && !(s.toList == [46]) && !(s.toList == [46, 46]) && !hasB s 47 && !hasB s 0)) := rfl
  generalize hasB s 0 = z at HZ HN
  generalize hasB s 47 = l at HL HN
  by_cases h1 : (s.toList == [46]) = true
  · have H1 := Lib.hid h1
    go_enter Tryz.func33, Tryz.ntmps33
    go_wp2_with fail
    go_ret
    exact ⟨by rw [HN.out, H1.out]; simp, rfl⟩
  · have h1 : (s.toList == [46]) = false := by simpa using h1
    by_cases h2 : (s.toList == [46, 46]) = true
    · have H2 := Lib.hid h2
      go_enter Tryz.func33, Tryz.ntmps33
      go_wp2_with fail
      go_ret
      exact ⟨by rw [HN.out, H2.out]; simp, rfl⟩
    · have h2 : (s.toList == [46, 46]) = false := by simpa using h2
      have H1 := Lib.hid h1
      have H2 := Lib.hid h2
      cases z
      · cases l
        · by_cases h3 : 1 ≤ s.size
          · by_cases h4 : s.size ≤ 8
            · have H3 := Lib.hid (show decide (1 ≤ s.size) = true by simpa using h3)
              have H4 := Lib.hid (show decide (s.size ≤ 8) = true by simpa using h4)
              have d4 : decide ((s.size : Int) ≤ 8) = true := by simp; omega
              clear h4
              go_enter Tryz.func33, Tryz.ntmps33
              go_wp2_with fail
              refine (HZ.out _).mono ?_
              rintro e w' ⟨rfl, rfl⟩
              go_wp2_with fail
              refine (HL.out _).mono ?_
              rintro e w' ⟨rfl, rfl⟩
              go_wp2_with fail
              go_ret
              exact ⟨by rw [HN.out, H1.out, H2.out, H3.out, H4.out]; rfl, rfl⟩
            · have d4 : decide ((s.size : Int) ≤ 8) = false := by simp; omega
              have H3 := Lib.hid (show decide (1 ≤ s.size) = true by simpa using h3)
              have H4 := Lib.hid (show decide (s.size ≤ 8) = false by simpa using h4)
              clear h4
              go_enter Tryz.func33, Tryz.ntmps33
              go_wp2_with fail
              refine (HZ.out _).mono ?_
              rintro e w' ⟨rfl, rfl⟩
              go_wp2_with fail
              refine (HL.out _).mono ?_
              rintro e w' ⟨rfl, rfl⟩
              go_wp2_with fail
              go_ret
              exact ⟨by rw [HN.out, H3.out, H4.out]; rfl, rfl⟩
          · have d3 : decide (1 ≤ (s.size : Int)) = false := by simp; omega
            have H3 := Lib.hid (show decide (1 ≤ s.size) = false by simpa using h3)
            clear h3
            go_enter Tryz.func33, Tryz.ntmps33
            go_wp2_with fail
            refine (HZ.out _).mono ?_
            rintro e w' ⟨rfl, rfl⟩
            go_wp2_with fail
            refine (HL.out _).mono ?_
            rintro e w' ⟨rfl, rfl⟩
            go_wp2_with fail
            go_ret
            exact ⟨by rw [HN.out, H3.out]; rfl, rfl⟩
        · go_enter Tryz.func33, Tryz.ntmps33
          go_wp2_with fail
          refine (HZ.out _).mono ?_
          rintro e w' ⟨rfl, rfl⟩
          go_wp2_with fail
          refine (HL.out _).mono ?_
          rintro e w' ⟨rfl, rfl⟩
          go_wp2_with fail
          go_ret
          exact ⟨by rw [HN.out]; simp, rfl⟩
      · go_enter Tryz.func33, Tryz.ntmps33
        go_wp2_with fail
        refine (HZ.out _).mono ?_
        rintro e w' ⟨rfl, rfl⟩
        go_wp2_with fail
        go_ret
        exact ⟨by rw [HN.out]; simp, rfl⟩

end Go.Proofs.YtoobmkkmomiigaaGreat

/-
  The walks of op's has, and of kept.
-/
namespace Go.Proofs.YtoobmkkmomiigaaGreat
open Go.RowKit OpMath

/-- Has a kind a field? -/
def hasF (k f : Int) : Bool :=
  if f = 1 then decide (1 ≤ k ∧ k ≤ 7)
  else if f = 2 then decide (4 ≤ k ∧ k ≤ 10)
  else if f = 4 then decide (k = 7)
  else if f = 8 then decide (1 ≤ k ∧ k ≤ 7)
  else if f = 16 then decide (k = 7)
  else if f = 32 then decide (8 ≤ k ∧ k ≤ 10)
  else decide (k = 3 ∨ k = 8)

end Go.Proofs.YtoobmkkmomiigaaGreat

/-
  A region that draws its order, whose own operations only read, and whose callees may make memory but turn nothing that is there: one walk, in the text's order. It needs no program.
-/
namespace Go.Proofs.YtoobmkkmomiigaaGreat
open Go.RowKit

open Classical in
/-- A world in which all that was there in w reads as before: x, if it is one. -/
noncomputable def later (w x : World) : World := if Below w.heap.size w x then x else w

theorem later_below (w x : World) : Below w.heap.size w (later w x) := by
  unfold later
  split
  · assumption
  · exact Below.refl _ _

theorem later_of {w x : World} (h : Below w.heap.size w x) : later w x = x := by
  unfold later
  rw [if_pos h]

theorem later_cell {w : World} {a : Addr} {v : Value} (h : w.cell? a = some v) (x : World) : (later w x).cell? a = some v := cell_later (later_below w x) h

/-- The walk of the lexical order serves every order. -/
theorem wp_region_later {P : Program} {id : Nat} {Q : Exit → Act → World → Prop} {a : Act} {w : World} {l : List Oper} (hm : P.follows .mixedOrders = true) (hB : Region.lexB .any l.toArray = true)
    (h : wpQuiet P l.toArray (fun w' => ∃ x, w' = later w x) (fun a' => ∀ w', (∃ x, w' = later w x) → Q .normal a' w') l a) : (Code.region id l.toArray true).wp P Q a w :=
  wp_region_quiet (C := fun w' => ∃ x, w' = later w x) hm hB ⟨w.drew, (later_of (Below.refl _ _).drew).symm⟩ (by simpa using h)

/-- A callee's contract, met in such a world. -/
theorem later_call {P : Program} {f : FuncId} {args : Array Value} {w x : World} {v : Value} (h : Calls P f args (later w x) fun e w' => e = .returned v ∧ Below (later w x).heap.size (later w x) w') :
    Calls P f args (later w x) fun e w'' => e = .returned v ∧ ∃ y, w'' = later w y :=
  h.mono fun _ w' ⟨he, hb⟩ => ⟨he, w', (later_of (below_step (later_below w x) hb)).symm⟩

end Go.Proofs.YtoobmkkmomiigaaGreat

/-
  The landed audit's lists: what is looked up in inodes and entries; its small functions.
-/
namespace Go.Proofs.YtoobmkkmomiigaaGreat
open Go.RowKit StampMath GraphMath OpMath

theorem beq_dec (a b : Int) : (a == b) = decide (a = b) := by
  by_cases h : a = b
  · simp [h]
  · simp [h]

def iV (x : Int) : Value := .int .i64 x
theorem zeroI (w : World) : (zeroValue 3).run Tryz.prog w = .ok (iV 0) w := by kernel_rfl

/-- In these two maps lies what is looked up in inodes and entries. -/
structure Looked (W : World) (bk bl : Nat) (N : List Ino) (E : List Ent) : Prop where
  kinds : ∃ K : List (St × Int), KMap stV iV W bk K ∧ ∀ id, lookL K id = kindI N id
  links : ∃ L : List (St × Int), KMap stV iV W bl L ∧ ∀ id, (lookL L id).getD 0 = (linksE E id : Int)

theorem Looked.kept {W W' : World} {bk bl : Nat} {N : List Ino} {E : List Ent} (h : Looked W bk bl N E) (h1 : W'.heap[bk]? = W.heap[bk]?) (h2 : W'.heap[bl]? = W.heap[bl]?) : Looked W' bk bl N E := by
  obtain ⟨⟨K, k1, k2⟩, ⟨L, l1, l2⟩⟩ := h
  exact ⟨⟨K, k1.kept h1, k2⟩, ⟨L, l1.kept h2, l2⟩⟩

theorem Looked.lt {W : World} {bk bl : Nat} {N : List Ino} {E : List Ent} (h : Looked W bk bl N E) : bk < W.heap.size ∧ bl < W.heap.size := by
  obtain ⟨⟨K, k1, k2⟩, ⟨L, l1, l2⟩⟩ := h
  exact ⟨k1.lt, l1.lt⟩

theorem Looked.below {W W' : World} {bk bl : Nat} {N : List Ino} {E : List Ent} (h : Looked W bk bl N E) (hb : Below W.heap.size W W') : Looked W' bk bl N E := h.kept (hb.block _ h.lt.1) (hb.block _ h.lt.2)

theorem Looked.kind_ok {W : World} {bk bl : Nat} {N : List Ino} {E : List Ent} (h : Looked W bk bl N E) (id : St) :
    (Instr.lookup 56 (.map (some bk)) (.agg #[.int .i64 id.1, .int .i64 id.2]) true).run Tryz.prog W = .ok (.tuple #[.int .i64 ((kindI N id).getD 0), .bool (kindI N id).isSome]) W := by
  obtain ⟨⟨K, k1, k2⟩, _⟩ := h
  have hl := k1.look stShape Tryz.underlying56 (zeroI W) id true
  rw [if_pos rfl, k2 id, show ((kindI N id).map iV).getD (iV 0) = iV ((kindI N id).getD 0) by cases kindI N id <;> rfl] at hl
  exact hl

theorem Looked.kind {W : World} {bk bl : Nat} {N : List Ino} {E : List Ent} (h : Looked W bk bl N E) (id : St) :
    (Instr.lookup 56 (.map (some bk)) (.agg #[.int .i64 id.1, .int .i64 id.2]) false).run Tryz.prog W = .ok (.int .i64 ((kindI N id).getD 0)) W := by
  obtain ⟨⟨K, k1, k2⟩, _⟩ := h
  have hl := k1.look stShape Tryz.underlying56 (zeroI W) id false
  rw [if_neg (by decide), k2 id, show ((kindI N id).map iV).getD (iV 0) = iV ((kindI N id).getD 0) by cases kindI N id <;> rfl] at hl
  exact hl

theorem Looked.link {W : World} {bk bl : Nat} {N : List Ino} {E : List Ent} (h : Looked W bk bl N E) (id : St) :
    (Instr.lookup 56 (.map (some bl)) (.agg #[.int .i64 id.1, .int .i64 id.2]) false).run Tryz.prog W = .ok (.int .i64 (linksE E id : Nat)) W := by
  obtain ⟨_, ⟨L, l1, l2⟩⟩ := h
  have hl := l1.look stShape Tryz.underlying56 (zeroI W) id false
  rw [if_neg (by decide), show ((lookL L id).map iV).getD (iV 0) = iV ((lookL L id).getD 0) by cases lookL L id <;> rfl, l2 id] at hl
  exact hl

theorem auRoot_code (w : World) : Calls Tryz.prog 42 #[] w fun e w' => e = .returned (.agg #[.int .i64 0, .int .i64 0]) ∧ Below w.heap.size w w' := by
  go_enter Tryz.func42, Tryz.ntmps42
  go_wp2_with fail
  obtain ⟨z0, z1⟩ := two_cells (heap_alloc_new w (.cells #[.int .i64 0, .int .i64 0] 31))
  exact bodyPost_ret (v := .agg #[.int .i64 0, .int .i64 0]) (by simp [results, Tryz.results42, go_sem, z0, z1]) rfl ⟨rfl, (Below.refl _ _).alloc (Nat.le_refl _) _⟩

set_option maxRecDepth 100000 in
theorem has_code (A A' : Option Addr) (n c m d bk bl : Nat) (N : List Ino) (E : List Ent) (id : St) (w : World) (h : Looked w bk bl N E) :
    Calls Tryz.prog 48 #[.agg #[.slice A n c, .slice A' m d, .map (some bk), .map (some bl)], .agg #[.int .i64 id.1, .int .i64 id.2]] w fun e w' => e = .returned (.bool (kindI N id).isSome) ∧ Below w.heap.size w w' := by
  have hb : Below w.heap.size w ((w.alloc (.cells #[.slice A n c, .slice A' m d, .map (some bk), .map (some bl)] 58)).alloc (.cells #[.int .i64 id.1, .int .i64 id.2] 31)) := ((Below.refl _ _).alloc (Nat.le_refl _) _).alloc (by simp) _
  have hl := (h.below hb).kind_ok id
  clear h
  go_enter Tryz.func48, Tryz.ntmps48
  go_wp2_with fail
  go_ret
  exact ⟨rfl, hb⟩

set_option maxRecDepth 100000 in
theorem isDir_code (A A' : Option Addr) (n c m d bk bl : Nat) (N : List Ino) (E : List Ent) (id : St) (w : World) (h : Looked w bk bl N E) :
    Calls Tryz.prog 41 #[.agg #[.slice A n c, .slice A' m d, .map (some bk), .map (some bl)], .agg #[.int .i64 id.1, .int .i64 id.2]] w fun e w' => e = .returned (.bool (decide (kindI N id = some 1))) ∧ Below w.heap.size w w' := by
  have hb : Below w.heap.size w ((w.alloc (.cells #[.slice A n c, .slice A' m d, .map (some bk), .map (some bl)] 58)).alloc (.cells #[.int .i64 id.1, .int .i64 id.2] 31)) := ((Below.refl _ _).alloc (Nat.le_refl _) _).alloc (by simp) _
  have hl := (h.below hb).kind id
  have hv : ((kindI N id).getD 0 == 1) = decide (kindI N id = some 1) := by
    cases kindI N id with
    | none => rfl
    | some k =>
      show (k == 1) = _
      rw [beq_dec]
      simp only [Option.some.injEq]
  generalize (kindI N id).getD 0 = k at hl hv
  clear h
  go_enter Tryz.func41, Tryz.ntmps41
  go_wp2_with fail
  go_ret
  exact ⟨by first | rfl | rw [← hv], hb⟩

/-- May so many entries be of an inode? -/
def manyB (x : Ino) (k : Int) : Bool := if x.id = (0, 0) then decide (k = 0) else if x.kind = 1 then decide (k = 1) else decide (1 ≤ k ∧ k ≤ 6)

set_option maxRecDepth 100000 in
set_option maxHeartbeats 1600000 in
theorem mayLinks_code (x : Ino) (k : Int) (w : World) :
    Calls Tryz.prog 51 #[.agg (inoA x), .int .i64 k] w fun e w' => e = .returned (.bool (manyB x k)) ∧ Below w.heap.size w w' := by
  obtain ⟨b, hb⟩ : ∃ b, b = manyB x k := ⟨_, rfl⟩
  rw [← hb]
  unfold manyB at hb
  have hb0 : Below w.heap.size w (w.alloc (.cells (inoA x) 41)) := (Below.refl _ _).alloc (Nat.le_refl _) _
  have he0 := heap_alloc_new w (.cells (inoA x) 41)
  obtain ⟨⟨i1, i2⟩, xk, xl, xm, xd⟩ := x
  dsimp only at hb
  unfold inoA
  go_enter Tryz.func51, Tryz.ntmps51
  go_upto_region 1 with fail
  change Code.wp _ _ _ _ (w.alloc (.cells (inoA ⟨(i1, i2), xk, xl, xm, xd⟩) 41))
  generalize w.alloc (.cells (inoA ⟨(i1, i2), xk, xl, xm, xd⟩) 41) = w1 at he0 hb0 ⊢
  obtain ⟨x0, x1, x2, x3, x4, x5⟩ := ino_cells he0
  have l0 := later_cell x0
  have l1 := later_cell x1
  have HRl : Hid (∀ y, Calls Tryz.prog 42 #[] (later w1 y) fun e w' => e = .returned (.agg #[.int .i64 0, .int .i64 0]) ∧ Below (later w1 y).heap.size (later w1 y) w') := fun y => auRoot_code _
  have HE := Lib.hid he0
  have HB := Lib.hid hb0
  clear x0 x1 x2 x3 x4 x5 he0 hb0
  by_cases hz : ((i1, i2) : St) = (0, 0)
  · have hv : ∀ W : World, (Op.equalIn 10000 31 (.agg #[.int .i64 i1, .int .i64 i2]) (.agg #[.int .i64 0, .int .i64 0])).run Tryz.prog W = .ok true W := fun W => by rw [run_eqSt, decide_eq_true hz]
    rw [if_pos hz] at hb
    clear hz
    refine wp_region_later (by kernel_rfl) (by kernel_rfl) ?_
    repeat (go_big_quiet_step (first | (with_reducible exact later_call (HRl.out _))))
    refine wpQuiet_nil ?_
    intro _ hw'
    obtain ⟨y, rfl⟩ := hw'
    clear l0 l1 hv
    have hk : (k == 0) = b := by rw [hb]; exact beq_dec _ _
    clear hb
    go_wp2_with fail
    go_ret
    exact ⟨by first | rfl | rw [← hk], below_step HB.out (later_below w1 y)⟩
  · have hv : ∀ W : World, (Op.equalIn 10000 31 (.agg #[.int .i64 i1, .int .i64 i2]) (.agg #[.int .i64 0, .int .i64 0])).run Tryz.prog W = .ok false W := fun W => by rw [run_eqSt, decide_eq_false hz]
    rw [if_neg hz] at hb
    clear hz
    refine wp_region_later (by kernel_rfl) (by kernel_rfl) ?_
    repeat (go_big_quiet_step (first | (with_reducible exact later_call (HRl.out _))))
    refine wpQuiet_nil ?_
    intro _ hw'
    obtain ⟨y, rfl⟩ := hw'
    clear l0 l1 hv
    have hB := below_step HB.out (later_below w1 y)
    have he1 := ((later_below w1 y).block _ (heap_lt HE.out)).trans HE.out
    generalize later w1 y = w2 at hB he1 ⊢
    obtain ⟨x0, x1, x2, x3, x4, x5⟩ := ino_cells he1
    clear he1 HRl
    dsimp only at x2
    by_cases hk : xk = 1
    · have hk' : (xk == 1) = true := beq_iff_eq.2 hk
      rw [if_pos hk] at hb
      clear hk
      have hk2 : (k == 1) = b := by rw [hb]; exact beq_dec _ _
      clear hb
      go_wp2_with fail
      go_ret
      exact ⟨by first | rfl | rw [← hk2], hB⟩
    · have hk' : (xk == 1) = false := beq_eq_false_iff_ne.2 hk
      rw [if_neg hk] at hb
      clear hk
      by_cases h1 : 1 ≤ k
      · by_cases h6 : k ≤ 6
        · rw [decide_eq_true ⟨h1, h6⟩] at hb
          subst hb
          go_wp2_with fail
          go_ret
          exact ⟨by first | rfl | simp [h1, h6], hB⟩
        · rw [decide_eq_false (fun q => h6 q.2)] at hb
          subst hb
          go_wp2_with fail
          go_ret
          exact ⟨by first | rfl | simp [h1, h6], hB⟩
      · rw [decide_eq_false (fun q => h1 q.1)] at hb
        subst hb
        go_wp2_with fail
        go_ret
        exact ⟨by first | rfl | simp [h1], hB⟩

end Go.Proofs.YtoobmkkmomiigaaGreat

/-
  The landed audit's questions about one inode, or one entry.
-/
namespace Go.Proofs.YtoobmkkmomiigaaGreat
open Go.RowKit StampMath GraphMath OpMath

/-- May an inode's Id and kind be none? -/
def noneB (x : Ino) : Bool := !(mayB x.id.1 x.id.2 && decide (1 ≤ x.kind ∧ x.kind ≤ 3))

/-- May there be so many bytes of data in an inode of a kind? -/
def dataB (k : Int) (z : Int) : Bool := if k = 1 then decide (z = 0) else if k = 2 then decide (z ≤ 64) else if k = 3 then decide (1 ≤ z ∧ z ≤ 32) else true

/-- Are an inode's mode or data out of their bounds? -/
def muchB (x : Ino) : Bool := !(decide (0 ≤ x.mode ∧ x.mode ≤ 4095) && dataB x.kind x.data.size)

set_option maxRecDepth 100000 in
theorem isNone_code (x : Ino) (w : World) :
    Calls Tryz.prog 44 #[.agg (inoA x)] w fun e w' => e = .returned (.bool (noneB x)) ∧ Below w.heap.size w w' := by
  obtain ⟨b, hb⟩ : ∃ b, b = noneB x := ⟨_, rfl⟩
  rw [← hb]
  unfold noneB at hb
  have hb0 : Below w.heap.size w (w.alloc (.cells (inoA x) 41)) := (Below.refl _ _).alloc (Nat.le_refl _) _
  have he0 := heap_alloc_new w (.cells (inoA x) 41)
  obtain ⟨⟨i1, i2⟩, xk, xl, xm, xd⟩ := x
  dsimp only at hb
  obtain ⟨m, hm⟩ : ∃ m, m = mayB i1 i2 := ⟨_, rfl⟩
  have HM : Hid (∀ W : World, Calls Tryz.prog 14 #[.agg #[.int .i64 i1, .int .i64 i2]] W fun e w' => e = .returned (.bool m) ∧ Below W.heap.size W w') := fun W => by rw [hm]; exact may_any i1 i2 W
  rw [← hm] at hb
  clear hm
  have HE := Lib.hid he0
  clear he0
  unfold inoA
  go_enter Tryz.func44, Tryz.ntmps44
  go_wp2_with fail
  refine (HM.out _).mono ?_
  rintro e w2 ⟨rfl, hb2⟩
  have he2 := (hb2.block _ (heap_lt HE.out)).trans HE.out
  have hB := below_step hb0 hb2
  clear hb0 hb2 HE HM
  obtain ⟨x0, x1, x2, x3, x4, x5⟩ := ino_cells he2
  dsimp only at x2
  cases m with
  | false =>
    have hb' : b = true := by rw [hb]; rfl
    clear hb
    subst hb'
    go_wp2_with fail
    go_ret
    exact ⟨rfl, hB⟩
  | true =>
    rw [Bool.true_and] at hb
    by_cases h1 : 1 ≤ xk
    · by_cases h3 : xk ≤ 3
      · rw [decide_eq_true ⟨h1, h3⟩] at hb
        subst hb
        have q1 : decide (xk < 1) = false := decide_eq_false (by omega)
        have q3 : decide (xk > 3) = false := decide_eq_false (by omega)
        go_wp2_with fail
        go_ret
        exact ⟨by first | rfl | simp <;> omega, hB⟩
      · rw [decide_eq_false (fun q => h3 q.2)] at hb
        subst hb
        have q1 : decide (xk < 1) = false := decide_eq_false (by omega)
        have q3 : decide (xk > 3) = true := decide_eq_true (by omega)
        go_wp2_with fail
        go_ret
        exact ⟨by first | rfl | simp <;> omega, hB⟩
    · rw [decide_eq_false (fun q => h1 q.1)] at hb
      subst hb
      have q1 : xk < 1 := by omega
      go_wp2_with fail
      go_ret
      exact ⟨by first | rfl | simp <;> omega, hB⟩

set_option maxRecDepth 100000 in
theorem nameless_code (x : Ent) (hs : x.name.size ≤ maxLen) (w : World) :
    Calls Tryz.prog 46 #[.agg (entA x)] w fun e w' => e = .returned (.bool (!nameB x.name)) ∧ Below w.heap.size w w' := by
  have hb0 : Below w.heap.size w (w.alloc (.cells (entA x) 34)) := (Below.refl _ _).alloc (Nat.le_refl _) _
  obtain ⟨⟨d1, d2⟩, nm, ⟨i1, i2⟩⟩ := x
  obtain ⟨b, hb⟩ : ∃ b, b = nameB nm := ⟨_, rfl⟩
  have HN : Hid (∀ W : World, Calls Tryz.prog 33 #[.string nm] W fun e w' => e = .returned (.bool b) ∧ W = w') := fun W => by rw [hb]; exact name_any _ hs W
  dsimp only
  rw [← hb]
  clear hb hs
  unfold entA
  go_enter Tryz.func46, Tryz.ntmps46
  go_wp2_with fail
  refine (HN.out _).mono ?_
  rintro e w2 ⟨rfl, rfl⟩
  go_wp2_with fail
  go_ret
  exact ⟨rfl, hb0⟩

set_option maxRecDepth 100000 in
theorem mayData_code (k z : Int) (w : World) :
    Calls Tryz.prog 68 #[.int .i64 k, .int .i64 z] w fun e w' => e = .returned (.bool (dataB k z)) ∧ w = w' := by
  obtain ⟨b, hb⟩ : ∃ b, b = dataB k z := ⟨_, rfl⟩
  rw [← hb]
  unfold dataB at hb
  by_cases k1 : k = 1
  · rw [if_pos k1] at hb
    have q1 : (k == 1) = true := beq_iff_eq.2 k1
    have hk : (z == 0) = b := by rw [hb]; exact beq_dec _ _
    clear hb k1
    go_enter Tryz.func68, Tryz.ntmps68
    go_wp2_with fail
    go_ret
    exact ⟨by first | rfl | rw [← hk], rfl⟩
  rw [if_neg k1] at hb
  have q1 : (k == 1) = false := beq_eq_false_iff_ne.2 k1
  clear k1
  by_cases k2 : k = 2
  · rw [if_pos k2] at hb
    have q2 : (k == 2) = true := beq_iff_eq.2 k2
    clear k2
    subst hb
    go_enter Tryz.func68, Tryz.ntmps68
    go_wp2_with fail
    go_ret
    exact ⟨rfl, rfl⟩
  rw [if_neg k2] at hb
  have q2 : (k == 2) = false := beq_eq_false_iff_ne.2 k2
  clear k2
  by_cases k3 : k = 3
  · rw [if_pos k3] at hb
    have q3 : (k == 3) = true := beq_iff_eq.2 k3
    clear k3
    by_cases h1 : 1 ≤ z
    · by_cases h6 : z ≤ 32
      · rw [decide_eq_true ⟨h1, h6⟩] at hb
        subst hb
        go_enter Tryz.func68, Tryz.ntmps68
        go_wp2_with fail
        go_ret
        exact ⟨by first | rfl | simp [h1, h6], rfl⟩
      · rw [decide_eq_false (fun q => h6 q.2)] at hb
        subst hb
        go_enter Tryz.func68, Tryz.ntmps68
        go_wp2_with fail
        go_ret
        exact ⟨by first | rfl | simp [h1, h6], rfl⟩
    · rw [decide_eq_false (fun q => h1 q.1)] at hb
      subst hb
      go_enter Tryz.func68, Tryz.ntmps68
      go_wp2_with fail
      go_ret
      exact ⟨by first | rfl | simp [h1], rfl⟩
  rw [if_neg k3] at hb
  have q3 : (k == 3) = false := beq_eq_false_iff_ne.2 k3
  clear k3
  subst hb
  go_enter Tryz.func68, Tryz.ntmps68
  go_wp2_with fail
  go_ret
  exact ⟨rfl, rfl⟩

set_option maxRecDepth 100000 in
theorem tooMuch_code (x : Ino) (hs : x.data.size ≤ maxLen) (w : World) :
    Calls Tryz.prog 53 #[.agg (inoA x)] w fun e w' => e = .returned (.bool (muchB x)) ∧ Below w.heap.size w w' := by
  obtain ⟨b, hb⟩ : ∃ b, b = muchB x := ⟨_, rfl⟩
  rw [← hb]
  unfold muchB at hb
  have hb0 : Below w.heap.size w (w.alloc (.cells (inoA x) 41)) := (Below.refl _ _).alloc (Nat.le_refl _) _
  obtain ⟨⟨i1, i2⟩, xk, xl, xm, xd⟩ := x
  dsimp only at hb hs
  have hs' : xd.size ≤ 9223372036854775807 := by unfold maxLen at hs; omega
  clear hs
  obtain ⟨d, hd⟩ : ∃ d, d = dataB xk xd.size := ⟨_, rfl⟩
  have HM : Hid (∀ W : World, Calls Tryz.prog 68 #[.int .i64 xk, .int .i64 (xd.size : Int)] W fun e w' => e = .returned (.bool d) ∧ W = w') := fun W => by rw [hd]; exact mayData_code xk _ W
  rw [← hd] at hb
  clear hd
  unfold inoA
  by_cases h1 : 0 ≤ xm
  · by_cases h3 : xm ≤ 4095
    · rw [decide_eq_true ⟨h1, h3⟩, Bool.true_and] at hb
      subst hb
      have q1 : decide (xm < 0) = false := decide_eq_false (by omega)
      have q3 : decide (xm > 4095) = false := decide_eq_false (by omega)
      go_enter Tryz.func53, Tryz.ntmps53
      go_wp2_with fail
      refine (HM.out _).mono ?_
      rintro e w2 ⟨rfl, rfl⟩
      go_wp2_with fail
      go_ret
      exact ⟨rfl, hb0⟩
    · rw [decide_eq_false (fun q => h3 q.2), Bool.false_and] at hb
      subst hb
      have q1 : decide (xm < 0) = false := decide_eq_false (by omega)
      have q3 : xm > 4095 := by omega
      go_enter Tryz.func53, Tryz.ntmps53
      go_wp2_with fail
      go_ret
      exact ⟨by first | rfl | simp <;> omega, hb0⟩
  · rw [decide_eq_false (fun q => h1 q.1), Bool.false_and] at hb
    subst hb
    have q1 : xm < 0 := by omega
    go_enter Tryz.func53, Tryz.ntmps53
    go_wp2_with fail
    go_ret
    exact ⟨by first | rfl | simp <;> omega, hb0⟩

/-! ### the closures -/

/-- In the block of a captured variable lie the lists. -/
abbrev listsA (A A' : Option Addr) (n c m d bk bl : Nat) : Array Value := #[.slice A n c, .slice A' m d, .map (some bk), .map (some bl)]

theorem lists_cells {w : World} {g : Nat} {A A' : Option Addr} {n c m d bk bl : Nat} {T : TypeId} (h : w.heap[g]? = some (.cells (listsA A A' n c m d bk bl) T (0, 0))) :
    w.cell? ⟨g, 0, none⟩ = some (.slice A n c) ∧ w.cell? ⟨g, 1, none⟩ = some (.slice A' m d) ∧ w.cell? ⟨g, 2, none⟩ = some (.map (some bk)) ∧ w.cell? ⟨g, 3, none⟩ = some (.map (some bl)) :=
  ⟨cell_of_row _ _ 0 _ _ (0, 0) h, cell_of_row _ _ 1 _ _ (0, 0) h, cell_of_row _ _ 2 _ _ (0, 0) h, cell_of_row _ _ 3 _ _ (0, 0) h⟩

/-- Is an entry lost? -/
def lostB (N : List Ino) (x : Ent) : Bool := !(decide (kindI N x.dir = some 1) && (kindI N x.ino).isSome)

set_option maxRecDepth 100000 in
theorem lostClo_code (A A' : Option Addr) (n c m d bk bl g : Nat) (N : List Ino) (E : List Ent) (x : Ent) (w : World) (hg : w.heap[g]? = some (.cells (listsA A A' n c m d bk bl) 58 (0, 0))) (h : Looked w bk bl N E) :
    Calls Tryz.prog 47 #[.agg (entA x), .pointer (some ⟨g, 0, none⟩)] w fun e w' => e = .returned (.bool (lostB N x)) ∧ Below w.heap.size w w' := by
  have HD : Hid (∀ W : World, Below w.heap.size w W → Calls Tryz.prog 41 #[.agg #[.slice A n c, .slice A' m d, .map (some bk), .map (some bl)], .agg #[.int .i64 x.dir.1, .int .i64 x.dir.2]] W fun e w' => e = .returned (.bool (decide (kindI N x.dir = some 1))) ∧ Below W.heap.size W w') := fun W hW => isDir_code A A' n c m d bk bl N E x.dir W (h.below hW)
  have HI : Hid (∀ W : World, Below w.heap.size w W → Calls Tryz.prog 48 #[.agg #[.slice A n c, .slice A' m d, .map (some bk), .map (some bl)], .agg #[.int .i64 x.ino.1, .int .i64 x.ino.2]] W fun e w' => e = .returned (.bool (kindI N x.ino).isSome) ∧ Below W.heap.size W w') := fun W hW => has_code A A' n c m d bk bl N E x.ino W (h.below hW)
  unfold lostB
  generalize decide (kindI N x.dir = some 1) = p at HD ⊢
  generalize (kindI N x.ino).isSome = q at HI ⊢
  clear h
  have hlt := heap_lt hg
  have hb0 : Below w.heap.size w (w.alloc (.cells (entA x) 34)) := (Below.refl _ _).alloc (Nat.le_refl _) _
  have he0 := heap_alloc_new w (.cells (entA x) 34)
  have hg0 := (hb0.block _ hlt).trans hg
  have HE := Lib.hid he0
  have HG := Lib.hid hg0
  obtain ⟨s0, s1, s2, s3⟩ := lists_cells hg
  clear he0 hg0 hg
  obtain ⟨⟨d1, d2⟩, nm, ⟨i1, i2⟩⟩ := x
  unfold entA
  go_enter Tryz.func47, Tryz.ntmps47
  go_wp2_with fail
  refine (HD.out _ hb0).mono ?_
  rintro e w2 ⟨rfl, hb2⟩
  cases p with
  | false =>
    go_wp2_with fail
    go_ret
    exact ⟨rfl, below_step hb0 hb2⟩
  | true =>
    have he2 := (hb2.block _ (heap_lt HE.out)).trans HE.out
    have hg2 := (hb2.block _ (heap_lt HG.out)).trans HG.out
    have hB := below_step hb0 hb2
    clear hb0 hb2 s0 s1 s2 s3
    obtain ⟨s0, s1, s2, s3⟩ := lists_cells hg2
    obtain ⟨e0, e1, e2, e3, e4⟩ := ent_cells he2
    clear he2 hg2
    go_wp2_with fail
    refine (HI.out _ hB).mono ?_
    rintro e w3 ⟨rfl, hb3⟩
    go_wp2_with fail
    go_ret
    exact ⟨rfl, below_step hB hb3⟩

set_option maxRecDepth 100000 in
theorem countClo_code (A A' : Option Addr) (n c m d bk bl g : Nat) (N : List Ino) (E : List Ent) (x : Ino) (w : World) (hg : w.heap[g]? = some (.cells (listsA A A' n c m d bk bl) 58 (0, 0))) (h : Looked w bk bl N E) :
    Calls Tryz.prog 49 #[.agg (inoA x), .pointer (some ⟨g, 0, none⟩)] w fun e w' => e = .returned (.bool (!decide (x.links = (linksE E x.id : Int)))) ∧ Below w.heap.size w w' := by
  have hb0 : Below w.heap.size w (w.alloc (.cells (inoA x) 41)) := (Below.refl _ _).alloc (Nat.le_refl _) _
  have he0 := heap_alloc_new w (.cells (inoA x) 41)
  have hg0 := (hb0.block _ (heap_lt hg)).trans hg
  have hL := fun y => (h.below (below_step hb0 (later_below _ y))).link x.id
  obtain ⟨b, hb⟩ : ∃ b, b = decide (x.links = (linksE E x.id : Int)) := ⟨_, rfl⟩
  rw [← hb]
  clear h hg
  obtain ⟨⟨i1, i2⟩, xk, xl, xm, xd⟩ := x
  dsimp only at hb hL
  unfold inoA
  generalize (linksE E (i1, i2) : Int) = k at hb hL
  have hv : (xl != k) = !b := by rw [hb, ← beq_dec]; rfl
  clear hb
  go_enter Tryz.func49, Tryz.ntmps49
  go_upto_region 1 with fail
  change Code.wp _ _ _ _ (w.alloc (.cells (inoA ⟨(i1, i2), xk, xl, xm, xd⟩) 41))
  generalize w.alloc (.cells (inoA ⟨(i1, i2), xk, xl, xm, xd⟩) 41) = w1 at he0 hb0 hg0 hL ⊢
  obtain ⟨x0, x1, x2, x3, x4, x5⟩ := ino_cells he0
  obtain ⟨s0, s1, s2, s3⟩ := lists_cells hg0
  have l0 := later_cell x0
  have l1 := later_cell x1
  have l3 := later_cell x3
  have k3 := later_cell s3
  clear x0 x1 x2 x3 x4 x5 s0 s1 s2 s3 he0 hg0
  have HB := Lib.hid hb0
  clear hb0
  refine wp_region_later (by kernel_rfl) (by kernel_rfl) ?_
  repeat (go_big_quiet_step (fail))
  refine wpQuiet_nil ?_
  intro _ hw'
  obtain ⟨y, rfl⟩ := hw'
  clear l0 l1 l3 k3 hL
  go_wp2_with fail
  go_ret
  exact ⟨by first | rfl | rw [← hv], below_step HB.out (later_below w1 y)⟩

set_option maxRecDepth 100000 in
theorem linkClo_code (A A' : Option Addr) (n c m d bk bl g : Nat) (N : List Ino) (E : List Ent) (x : Ino) (w : World) (hg : w.heap[g]? = some (.cells (listsA A A' n c m d bk bl) 58 (0, 0))) (h : Looked w bk bl N E) :
    Calls Tryz.prog 50 #[.agg (inoA x), .pointer (some ⟨g, 0, none⟩)] w fun e w' => e = .returned (.bool (!manyB x (linksE E x.id : Nat))) ∧ Below w.heap.size w w' := by
  have hb0 : Below w.heap.size w (w.alloc (.cells (inoA x) 41)) := (Below.refl _ _).alloc (Nat.le_refl _) _
  have he0 := heap_alloc_new w (.cells (inoA x) 41)
  have hg0 := (hb0.block _ (heap_lt hg)).trans hg
  have hL := fun y => (h.below (below_step hb0 (later_below _ y))).link x.id
  have hM := fun W => mayLinks_code x (linksE E x.id : Nat) W
  obtain ⟨b, hb⟩ : ∃ b, b = manyB x (linksE E x.id : Nat) := ⟨_, rfl⟩
  rw [← hb]
  rw [← hb] at hM
  clear h hg hb
  obtain ⟨⟨i1, i2⟩, xk, xl, xm, xd⟩ := x
  dsimp only at hL hM
  unfold inoA at hM ⊢
  generalize (linksE E (i1, i2) : Int) = k at hM hL
  go_enter Tryz.func50, Tryz.ntmps50
  go_upto_region 1 with fail
  change Code.wp _ _ _ _ (w.alloc (.cells (inoA ⟨(i1, i2), xk, xl, xm, xd⟩) 41))
  generalize w.alloc (.cells (inoA ⟨(i1, i2), xk, xl, xm, xd⟩) 41) = w1 at he0 hb0 hg0 hL ⊢
  obtain ⟨x0, x1, x2, x3, x4, x5⟩ := ino_cells he0
  obtain ⟨s0, s1, s2, s3⟩ := lists_cells hg0
  have l0 := later_cell x0
  have l1 := later_cell x1
  have l2 := later_cell x2
  have l3 := later_cell x3
  have l4 := later_cell x4
  have l5 := later_cell x5
  have k3 := later_cell s3
  clear x0 x1 x2 x3 x4 x5 s0 s1 s2 s3 he0 hg0
  have HB := Lib.hid hb0
  have HMl := Lib.hid fun (y : World) => later_call (hM (later w1 y))
  clear hb0 hM
  refine wp_region_later (by kernel_rfl) (by kernel_rfl) ?_
  repeat (go_big_quiet_step (first | (with_reducible exact HMl.out _)))
  refine wpQuiet_nil ?_
  intro _ hw'
  obtain ⟨y, rfl⟩ := hw'
  clear l0 l1 l2 l3 l4 l5 k3 hL
  go_wp2_with fail
  go_ret
  exact ⟨rfl, below_step HB.out (later_below w1 y)⟩

end Go.Proofs.YtoobmkkmomiigaaGreat

/-
  Rows of a call's own, kept through calls and through a write to another block. It needs no program.
-/
namespace Go.Proofs.YtoobmkkmomiigaaGreat
open Go.RowKit

/-- Has the call made the block r, and the blocks from base on alone? -/
theorem own_iter {w w' : World} {base r : Nat} {e : TypeId} {k : Nat} {v : Value} {n : Nat} {xs : List Value} (h : w.ownsRow base e k v n xs) (hb : But (fun i => i = r) w w') (hr : r < base) : w'.ownsRow base e k v n xs :=
  h.kept (row := some r) ⟨hb.os, hb.tape, hb.output, hb.size, fun i hi hn => hb.block i hi fun q => hn (by rw [q])⟩ (by
    cases hv : v.ownBlock with
    | none => exact .inl rfl
    | some j => exact .inr (fun q => by have := (h.lt j hv).1; injection q with q; omega))

/-- A call that leaves all that was there leaves the row. -/
theorem own_call {w w' : World} {base : Nat} {e : TypeId} {k : Nat} {v : Value} {n : Nat} {xs : List Value} (h : w.ownsRow base e k v n xs) (hb : Below w.heap.size w w') : w'.ownsRow base e k v n xs :=
  h.kept (row := none) ⟨hb.os, hb.tape, hb.output, hb.size, fun i hi _ => hb.block i hi⟩ (by
    cases hv : v.ownBlock with
    | none => exact .inl rfl
    | some j => exact .inr (fun q => by cases q))

theorem own_lower {w : World} {b b' : Nat} {e : TypeId} {k : Nat} {v : Value} {n : Nat} {xs : List Value} (h : w.ownsRow b e k v n xs) (hb : b' ≤ b) : w.ownsRow b' e k v n xs := by
  obtain ⟨h0, h1 | ⟨g, cap, cur, h1, h2, h3⟩⟩ := h
  · exact ⟨h0, Or.inl h1⟩
  · exact ⟨h0, Or.inr ⟨g, cap, cur, h1, Nat.le_trans hb h2, h3⟩⟩

end Go.Proofs.YtoobmkkmomiigaaGreat

/-
  A map of any shape gone through inside a fence (by an iterator's own body).
-/
namespace Go.Proofs.YtoobmkkmomiigaaGreat
open Go.RowKit

section
variable {K V : Type} {ek : K → Value} {ev : V → Value} {P : Program} {k e : TypeId}

theorem KRange.walks {w w' : World} {b r : Nat} {L todo : List (K × V)} (h : KRange ek ev w b r L todo) (hk : KeepsWalks w w') : KRange ek ev w' b r L todo := by
  obtain ⟨es, clock, since, seen, c0, M, T, h1, h2, h3, h4, h5, rest⟩ := h
  exact ⟨es, clock, since, seen, c0, M, T, hk.same b _ h1 rfl, h2, h3, h4, hk.same r _ h5 rfl, rest⟩

theorem KRange.iter_walk {w : World} {b r : Nat} {L todo : List (K × V)} (h : KRange ek ev w b r L todo) : ∃ o : Obj, w.heap[r]? = some o ∧ o.isWalk = true := by
  obtain ⟨es, clock, since, seen, c0, M, T, h1, h2, h3, h4, h5, rest⟩ := h
  exact ⟨_, h5, rfl⟩

/-- 'range m'. -/
theorem wpListIn_k_range {F : Fence} {n : Nat} {w : World} {ops : Array Oper} {rest : List Oper} {o : Oper} {a : Act} {Q : Exit → Act → World → Prop} (hg : o.guard = none) (m : Operand) (t : TypeId)
    (hop : o.op = Op.range t m) (ht : P.underlying t = some (.map k e)) (b : Nat) (L : List (K × V)) (hm : a.eval m = .map (some b)) (h : KMap ek ev w b L)
    (hK : ∀ w', Hid (KRange ek ev w' b w.heap.size L L) → Hid (Below w.heap.size w w') → Hid (w'.heap.size = w.heap.size + 1) → wpListIn F n P ops Q rest (a.put o.dst (.pointer (some ⟨w.heap.size, 0, none⟩))) w') : wpListIn F n P ops Q (o :: rest) a w := by
  refine wpListIn_plain hg fun K' hK' => ?_
  obtain ⟨w', hrun, r1, r2, r3⟩ := h.range (P := P) ht
  unfold Oper.wpIn
  refine ⟨by simp [Oper.about, hop], ?_⟩
  rw [Oper.semAt_plain F _ _ (by rw [hop]; intro c hc'; cases hc')]
  simp [execOp, hop, hm, hrun, Result.andThen]
  exact hK' _ _ (hK w' r1 r2 r3)

/-- The step. -/
theorem wpListIn_k_next {F : Fence} {n : Nat} {w : World} {ops : Array Oper} {rest : List Oper} {o : Oper} {a : Act} {Q : Exit → Act → World → Prop} (hg : o.guard = none) (it : Operand) (hop : o.op = Op.next it false)
    (b r : Nat) (L todo : List (K × V)) (hit : a.eval it = .pointer (some ⟨r, 0, none⟩)) (h : KRange ek ev w b r L todo)
    (hDone : todo = [] → wpListIn F n P ops Q rest (a.put o.dst (.tuple #[.bool false])) w)
    (hMore : ∀ (p : K × V) (todo' : List (K × V)) (w' : World), Hid (todo.Perm (p :: todo')) → Hid (KRange ek ev w' b r L todo') → Hid (But (fun i => i = r) w w') → Hid (w'.heap.size = w.heap.size) →
      (Instr.entry (.pointer (some ⟨r, 0, none⟩))).run P w' = .ok (.tuple #[ek p.1, ev p.2]) w' → wpListIn F n P ops Q rest (a.put o.dst (.tuple #[.bool true, ek p.1, ev p.2])) w') :
    wpListIn F n P ops Q (o :: rest) a w := by
  refine wpListIn_plain hg fun K' hK' => ?_
  unfold Oper.wpIn
  refine ⟨by simp [Oper.about, hop], ?_⟩
  rw [Oper.semAt_plain F _ _ (by rw [hop]; intro c hc'; cases hc')]
  rcases h.next (P := P) o.type with ⟨h0, hrun⟩ | ⟨p, todo', w', hp, hrun, hr, hb, hs, hen⟩
  · simp [execOp, hop, hit, hrun, Result.andThen]
    exact hK' _ _ (hDone h0)
  · simp [execOp, hop, hit, hrun, Result.andThen]
    exact hK' _ _ (hMore p todo' w' hp hr hb hs hen)

/-- 'm[k] = v'. -/
theorem wpListIn_k_store [DecidableEq K] (S : KShape P k ek) {F : Fence} {n : Nat} {w : World} {ops : Array Oper} {rest : List Oper} {o : Oper} {a : Act} {Q : Exit → Act → World → Prop} (hg : o.guard = none) (m x v : Operand) (t : TypeId)
    (hop : o.op = Op.mapUpdate t m x v) (ht : P.underlying t = some (.map k e)) (b : Nat) (L : List (K × V)) (hm : a.eval m = .map (some b)) (h : KMap ek ev w b L) (key : K) (hx : a.eval x = ek key) (val : V) (hv : a.eval v = ev val)
    (hK : ∀ w', Hid (KMap ek ev w' b ((key, val) :: offL L key)) → Hid (But (fun i => i = b) w w') → Hid (w'.heap.size = w.heap.size) → wpListIn F n P ops Q rest (a.put o.dst undef) w') : wpListIn F n P ops Q (o :: rest) a w := by
  refine wpListIn_plain hg fun K' hK' => ?_
  obtain ⟨w', hrun, r1, r2, r3⟩ := h.store S ht key val
  unfold Oper.wpIn
  refine ⟨by simp [Oper.about, hop], ?_⟩
  rw [Oper.semAt_plain F _ _ (by rw [hop]; intro c hc'; cases hc')]
  simp [execOp, hop, hm, hx, hv, hrun, Result.andThen]
  exact hK' _ _ (hK w' r1 r2 r3)

end
end Go.Proofs.YtoobmkkmomiigaaGreat
