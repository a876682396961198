/-
  The walk of layer 13's same: two graphs that tell the same.
-/
import Derived.Test.YtdobeghbkonimaaGreatDoorZ01
import Derived.Test.YtdobeghbkonimaaGreatDoorZ01
import Derived.Deep.RegionHeld3
import Derived.Deep.RegionWith
import Derived.Test.YtdobeghbkonimaaGreatDoorZ00
import Derived.OpenShut
namespace Go.Proofs.YtdobeghbkonimaaGreatDoor
open Go.RowKit StampMath GraphMath OpMath

set_option maxRecDepth 100000 in
set_option maxHeartbeats 1600000 in
theorem sameF_two (H : GraphHave) (a b : Addr) (S T : Nat → Prop) (g : Gr) (w : World) (h1 : H.rep w S a g) (h2 : H.rep w T b g) (hg : g.ok) :
    Calls Tryz.prog 29 #[.pointer (some a), .pointer (some b)] w fun e w' => e = .returned (.bool true) ∧ Below w.heap.size w w' := by
  have hin : (inodesG g).length ≤ 1000 := by unfold inodesG; rw [List.length_map]; exact Nat.le_trans hg.few (by decide)
  have hm : g.E.length ≤ 1000 := Nat.le_trans hg.entsFew (by decide)
  have I1 : Hid (∀ W, Below w.heap.size w W → Calls Tryz.prog 24 #[.pointer (some a)] W (InosPost (inodesG g) W)) := fun W hW => told_inos H h1 hg hW
  have I2 : Hid (∀ W, Below w.heap.size w W → Calls Tryz.prog 24 #[.pointer (some b)] W (InosPost (inodesG g) W)) := fun W hW => told_inos H h2 hg hW
  have E1 : Hid (∀ W, Below w.heap.size w W → Calls Tryz.prog 27 #[.pointer (some a)] W (EntsPost g.E W)) := fun W hW => told_ents H h1 hg hW
  have E2 : Hid (∀ W, Below w.heap.size w W → Calls Tryz.prog 27 #[.pointer (some b)] W (EntsPost g.E W)) := fun W hW => told_ents H h2 hg hW
  have C9 : Hid (∀ (B B' : Option Addr) (k k' : Nat) (W : World), InosIn W W.heap.size B (inodesG g).length (inodesG g) → InosIn W W.heap.size B' (inodesG g).length (inodesG g) → Calls Tryz.prog 23 #[.slice B (inodesG g).length k, .slice B' (inodesG g).length k'] W fun e w' => e = .returned (.bool true) ∧ Below W.heap.size W w') := fun B B' k k' W q1 q2 => by
    have := refNodes B B' _ k _ k' _ _ (by omega) (by omega) W q1 q2
    simpa using this
  have C15 : Hid (∀ (B B' : Option Addr) (k k' : Nat) (W : World), EntsIn W W.heap.size B g.E.length g.E → EntsIn W W.heap.size B' g.E.length g.E → Calls Tryz.prog 26 #[.slice B g.E.length k, .slice B' g.E.length k'] W fun e w' => e = .returned (.bool true) ∧ Below W.heap.size W w') := fun B B' k k' W q1 q2 => by
    have := refEnts B B' _ k _ k' _ _ (by omega) (by omega) W q1 q2
    simpa using this
  generalize inodesG g = X at I1 I2 C9
  generalize g.E = E at E1 E2 C15
  clear h1 h2 hg hin hm
  go_enter Tryz.func29, Tryz.ntmps29
  go_wp2_with fail
  refine (I1.out _ (by repeat (first | exact Below.refl _ _ | assumption | apply Below.drew | refine below_step ?_ (by assumption)))).mono ?_
  rintro z w1 ⟨B1, k1, rfl, q1, _, _, _, hb⟩
  go_wp2_with fail
  refine (I2.out _ (by repeat (first | exact Below.refl _ _ | assumption | apply Below.drew | refine below_step ?_ (by assumption)))).mono ?_
  rintro z w1 ⟨B1, k1, rfl, q1, _, _, _, hb⟩
  go_wp2_with fail
  refine (C9.out _ _ _ _ _ (inos_later (by assumption) (by repeat (first | exact Below.refl _ _ | assumption | apply Below.drew | refine below_step ?_ (by assumption)))) (by assumption)).mono ?_
  rintro z w1 ⟨rfl, hb⟩
  go_wp2_with fail
  refine (E1.out _ (by repeat (first | exact Below.refl _ _ | assumption | apply Below.drew | refine below_step ?_ (by assumption)))).mono ?_
  rintro z w1 ⟨B1, k1, rfl, q1, _, _, _, hb⟩
  go_wp2_with fail
  refine (E2.out _ (by repeat (first | exact Below.refl _ _ | assumption | apply Below.drew | refine below_step ?_ (by assumption)))).mono ?_
  rintro z w1 ⟨B1, k1, rfl, q1, _, _, _, hb⟩
  go_wp2_with fail
  refine (C15.out _ _ _ _ _ (ents_later (by assumption) (by repeat (first | exact Below.refl _ _ | assumption | apply Below.drew | refine below_step ?_ (by assumption)))) (by assumption)).mono ?_
  rintro z w1 ⟨rfl, hb⟩
  go_wp2_with fail
  go_ret
  exact ⟨rfl, by repeat (first | exact Below.refl _ _ | assumption | apply Below.drew | refine below_step ?_ (by assumption))⟩

end Go.Proofs.YtdobeghbkonimaaGreatDoor

/-
  Plain mathematics of layer 13: modes, and the data of one inode, turn nothing else. It needs no program.
-/
namespace Go.Proofs.YtdobeghbkonimaaGreatDoor.GraphMath
open StampMath OpMath ExtentMath

/-- An inode without its mode, and without its data, if it is t. -/
def eraI (t : St) (x : Ino) : Ino := { x with mode := 0, data := if x.id = t then ⟨#[]⟩ else x.data }

def era (t : St) (g : Gr) : Gr := ⟨g.I.map (eraI t), g.E⟩

section
variable (t : St)

theorem eraI_twice (x : Ino) : eraI t (eraI t x) = eraI t x := by
  unfold eraI
  dsimp only
  by_cases h : x.id = t
  · simp [h]
  · simp [h]

theorem era_twice (g : Gr) : era t (era t g) = era t g := by
  unfold era
  dsimp only
  rw [List.map_map]
  congr 1
  exact List.map_congr_left fun x _ => eraI_twice t x

theorem era_E {g h : Gr} (hg : era t g = era t h) : g.E = h.E := (congrArg Gr.E hg : (era t g).E = (era t h).E)

theorem era_len (g : Gr) : (era t g).I.length = g.I.length := by unfold era; rw [List.length_map]

theorem era_get (g : Gr) (id : St) : getG (era t g) id = (getG g id).map (eraI t) := by
  unfold getG era
  dsimp only
  rw [List.find?_map, Option.map_map, Option.map_map]
  have : ((fun x : Ino => decide (x.id = id)) ∘ eraI t) = fun x => decide (x.id = id) := rfl
  rw [this]
  congr 1

theorem era_kind (g : Gr) (id : St) : kindG (era t g) id = kindG g id := by
  unfold kindG
  rw [era_get]
  cases getG g id <;> rfl

theorem era_links (g : Gr) (id : St) : linksG (era t g) id = linksG g id := by
  unfold linksG
  rw [era_get]
  cases getG g id <;> rfl

theorem era_parent (g : Gr) (d : St) : parentG (era t g) d = parentG g d := by
  unfold parentG
  rw [era_get]
  cases getG g d with
  | none => rfl
  | some x => rfl

theorem era_underN (g : Gr) : ∀ (n : Nat) (a b : St), underN (era t g) n a b = underN g n a b
  | 0, _, _ => rfl
  | n + 1, a, b => by
    rw [underN_step, underN_step, era_parent]
    split
    · rfl
    · cases parentG g a with
      | none => rfl
      | some up => exact era_underN g n up b

theorem era_under (g : Gr) (a b : St) : underG (era t g) a b = underG g a b := by
  unfold underG
  rw [era_len, era_underN]

theorem era_why (b : Bool) (g : Gr) (e : Ent) : whyG b (era t g) e = whyG b g e := by
  unfold whyG
  rw [era_get, era_get, era_under]
  cases b with
  | false => rfl
  | true =>
    cases getG g e.dir with
    | none => rfl
    | some x =>
      cases getG g e.ino with
      | none => rfl
      | some y => rfl

theorem era_tie (b : Bool) (g : Gr) (e : Ent) : era t (tieG b g e).1 = (tieG b (era t g) e).1 := by
  unfold tieG
  rw [era_why]
  split <;> rfl

theorem era_untie (g : Gr) (d : St) (nm : ByteArray) : era t (untieG g d nm).1 = (untieG (era t g) d nm).1 ∧ (untieG (era t g) d nm).2 = (untieG g d nm).2 ∧ (untieG (era t g) d nm).1.E = (untieG g d nm).1.E := by
  unfold untieG
  show _ ∧ (match lookE g.E d nm with | _ => _) = _ ∧ _
  cases h : lookE g.E d nm with
  | none =>
    have h' : lookE (era t g).E d nm = none := h
    rw [h']
    exact ⟨rfl, rfl, rfl⟩
  | some id =>
    have h' : lookE (era t g).E d nm = some id := h
    rw [h']
    exact ⟨rfl, rfl, rfl⟩

theorem era_drop (g : Gr) (id : St) : era t (dropG g id).1 = (dropG (era t g) id).1 := by
  unfold dropG
  rw [era_get]
  cases getG g id with
  | none => rfl
  | some x =>
    show era t (if id = (0, 0) then (g, 8) else if 0 < x.links ∨ 0 < (listE g.E id).length then (g, 7) else (⟨g.I.filter fun x => !decide (x.id = id), g.E⟩, 0)).1 = (if id = (0, 0) then (era t g, 8) else if 0 < x.links ∨ 0 < (listE g.E id).length then (era t g, 7) else (⟨(era t g).I.filter fun x => !decide (x.id = id), g.E⟩, 0)).1
    split
    · rfl
    · split
      · rfl
      · unfold era
        dsimp only
        rw [List.filter_map]
        rfl

theorem era_make (g : Gr) (id : St) (kind : Int) : era t (makeG g id kind).1 = (makeG (era t g) id kind).1 := by
  unfold makeG
  rw [era_get, era_len]
  rw [show ((getG g id).map (eraI t)).isSome = (getG g id).isSome by cases getG g id <;> rfl]
  split
  · rfl
  · split
    · rfl
    · split
      · rfl
      · unfold era
        dsimp only
        unfold putIn
        rw [List.map_append, List.map_cons, List.takeWhile_map, List.dropWhile_map]
        have e1 : ((fun x : Ino => lessS x.id id) ∘ eraI t) = fun x => lessS x.id id := rfl
        have e2 : eraI t ⟨id, kind, 0, 0, ⟨#[]⟩⟩ = ⟨id, kind, 0, 0, ⟨#[]⟩⟩ := by unfold eraI; simp
        rw [e1, e2]

/-- What is set is erased, or is the same in both. -/
theorem era_set {g h : Gr} (hg : era t g = era t h) (id : St) (m m' : Int) (d d' : ByteArray) (hd : id = t ∨ d = d') : era t (setG g id m d).1 = era t (setG h id m' d').1 := by
  have hs : (getG g id).isSome = (getG h id).isSome := by
    have := congrArg (fun k => (getG k id).isSome) hg
    simp only [era_get] at this
    simpa using this
  have key : ∀ (g : Gr) (m : Int) (d : ByteArray), (getG g id).isSome = true → era t (setG g id m d).1 = ⟨(era t g).I.map fun x => if x.id = id then { x with data := if id = t then ⟨#[]⟩ else d } else x, g.E⟩ := fun g m d hx => by
    unfold setG
    cases hq : getG g id with
    | none => rw [hq] at hx; cases hx
    | some y =>
      unfold era
      dsimp only
      rw [List.map_map, List.map_map]
      congr 1
      refine List.map_congr_left fun x _ => ?_
      simp only [Function.comp_apply]
      by_cases e : x.id = id
      · rw [if_pos e, if_pos (show (eraI t x).id = id from e)]
        unfold eraI
        simp only [e]
      · rw [if_neg e, if_neg (show ¬ (eraI t x).id = id from e)]
  cases hx : (getG g id).isSome with
  | false =>
    have h1 : (setG g id m d).1 = g := by
      unfold setG
      cases hq : getG g id with
      | none => rfl
      | some y => rw [hq] at hx; cases hx
    have h2 : (setG h id m' d').1 = h := by
      unfold setG
      cases hq : getG h id with
      | none => rfl
      | some y => rw [hs, hq] at hx; cases hx
    rw [h1, h2]
    exact hg
  | true =>
    rw [key g m d hx, key h m' d' (by rw [← hs]; exact hx)]
    have hE : g.E = h.E := era_E t hg
    rw [hg, hE]
    rcases hd with rfl | rfl
    · simp
    · rfl

theorem era_gone (g : Gr) (d : St) (nm : ByteArray) : era t (goneG g d nm) = goneG (era t g) d nm := by
  obtain ⟨h1, h2, h3⟩ := era_untie t g d nm
  unfold goneG
  rw [h2, h3]
  split
  · rw [era_drop, h1]
  · exact h1

theorem era_tie1 (g : Gr) (d : St) (nm : ByteArray) (i : St) : era t (tie1 g d nm i) = tie1 (era t g) d nm i := era_tie t _ g _

theorem era_makesW (g : Gr) (o : Opn) : makesW (era t g) o = makesW g o := by
  unfold makesW
  rw [era_kind, era_kind, era_kind, era_len, era_links]
  rfl

theorem era_renamesW (g : Gr) (o : Opn) : renamesW (era t g) o = renamesW g o := by
  unfold renamesW
  rw [show targetG (era t g) o = targetG g o from rfl]
  simp only [era_kind, era_under]
  rfl

theorem era_whyA (g : Gr) (o : Opn) : whyA (era t g) o = whyA g o := by
  unfold whyA
  rw [era_makesW, era_renamesW]
  simp only [era_kind]
  rfl

theorem era_ino (g : Gr) (id : St) : inoG (era t g) id = eraI t (inoG g id) ∨ (getG g id) = none := by
  unfold inoG
  rw [era_get]
  cases getG g id with
  | none => exact Or.inr rfl
  | some x => exact Or.inl rfl

theorem era_data {g h : Gr} (hg : era t g = era t h) {id : St} (hn : id ≠ t) : (inoG g id).data = (inoG h id).data := by
  have h1 := congrArg (fun k => getG k id) hg
  simp only [era_get] at h1
  unfold inoG
  cases hq : getG g id with
  | none =>
    cases hr : getG h id with
    | none => rfl
    | some y => rw [hq, hr] at h1; cases h1
  | some x =>
    cases hr : getG h id with
    | none => rw [hq, hr] at h1; cases h1
    | some y =>
      rw [hq, hr] at h1
      simp only [Option.map_some, Option.some.injEq] at h1
      have hxi : x.id = id := by obtain ⟨z, _, hz, rfl⟩ := get_some hq; exact hz
      have hyi : y.id = id := by obtain ⟨z, _, hz, rfl⟩ := get_some hr; exact hz
      have h2 := congrArg Ino.data h1
      unfold eraI at h2
      dsimp only at h2
      rw [if_neg (by rw [hxi]; exact hn), if_neg (by rw [hyi]; exact hn)] at h2
      exact h2

/-- The same operation, in two graphs that differ in modes and in the data of t alone. -/
theorem era_made {g h : Gr} (hg : era t g = era t h) (o : Opn) : era t (madeA g o) = era t (madeA h o) := by
  have hE : g.E = h.E := era_E t hg
  have hT : targetG g o = targetG h o := by unfold targetG; rw [hE]
  unfold madeA
  rw [hT]
  split
  · rw [era_tie1, era_tie1, era_set t (g := (makeG g (oSt o) o.k).1) (h := (makeG h (oSt o) o.k).1) (by rw [era_make, era_make, hg]) (oSt o) 0 0 o.data o.data (Or.inr rfl)]
  split
  · rw [era_tie1, era_tie1, hg]
  split
  · rw [era_gone, era_gone, hg]
  split
  · split
    · exact hg
    · rw [era_tie1, era_tie1]
      congr 1
      rw [(era_untie t _ _ _).1, (era_untie t _ _ _).1]
      split
      · rw [era_gone, era_gone, hg]
      · rw [hg]
  have hd : oIno o = t ∨ (inoG g (oIno o)).data = (inoG h (oIno o)).data := by
    by_cases e : oIno o = t
    · exact Or.inl e
    · exact Or.inr (era_data t hg e)
  split
  · exact era_set t hg _ _ _ _ _ (hd.imp id fun e => by rw [e])
  split
  · exact era_set t hg _ _ _ _ _ (hd.imp id fun e => by rw [e])
  · exact era_set t hg _ _ _ _ _ hd

theorem era_does {g h : Gr} (hg : era t g = era t h) (o : Opn) : era t (doA g o).1 = era t (doA h o).1 := by
  have hw : whyA g o = whyA h o := by rw [← era_whyA t g, ← era_whyA t h, hg]
  unfold doA
  rw [hw]
  split
  · exact era_made t hg o
  · exact hg

theorem era_run : ∀ (l : List Opn) {g h : Gr}, era t g = era t h → era t (runG g l) = era t (runG h l)
  | [], _, _, hg => hg
  | o :: l, _, _, hg => era_run l (era_does t hg o)

/-- A mode that is set, or data of t that are written, are erased. -/
theorem era_idle {g : Gr} (h : g.ok) {o : Opn} (ho : o.k = 10 ∨ (o.k = 8 ∧ oIno o = t)) : era t (doA g o).1 = era t g := by
  have hset : ∀ (m : Int) (d : ByteArray), oIno o = t ∨ d = (inoG g (oIno o)).data → era t (setG g (oIno o) m d).1 = era t g := fun m d hd => by
    rw [era_set t (rfl : era t g = era t g) (oIno o) m (inoG g (oIno o)).mode d (inoG g (oIno o)).data hd]
    congr 1
    unfold setG inoG
    cases hq : getG g (oIno o) with
    | none => rfl
    | some y =>
      dsimp only [Option.getD_some]
      obtain ⟨x, hx, hxi, rfl⟩ := get_some hq
      have : (g.I.map fun z => if z.id = oIno o then ({ z with mode := x.mode, data := x.data } : Ino) else z) = g.I := by
        conv => rhs; rw [← List.map_id g.I]
        refine List.map_congr_left fun z hz => ?_
        by_cases e : z.id = oIno o
        · rw [if_pos e, h.ids hz hx (e.trans hxi.symm)]; rfl
        · rw [if_neg e]; rfl
      show (⟨g.I.map _, g.E⟩ : Gr) = g
      rw [this]
  unfold doA
  by_cases hw : whyA g o = 0
  · rw [if_pos hw]
    show era t (madeA g o) = _
    unfold madeA
    rcases ho with hk | ⟨hk, ht⟩
    · rw [if_neg (by omega), if_neg (by omega), if_neg (by omega), if_neg (by omega), if_neg (by omega), if_neg (by omega)]
      exact hset _ _ (Or.inr rfl)
    · rw [if_neg (by omega), if_neg (by omega), if_neg (by omega), if_neg (by omega), if_pos hk]
      exact hset _ _ (Or.inl ht)
  · rw [if_neg hw]

theorem era_skip {g : Gr} (h : g.fine) (a b : List Opn) {o : Opn} (ho : o.k = 10 ∨ (o.k = 8 ∧ oIno o = t)) : era t (runG g (a ++ o :: b)) = era t (runG g (a ++ b)) := by
  rw [run_append, run_append]
  exact era_run t b (era_idle t (runG_fine h a).ok ho)

end

/-- One more operation of these, wherever it is put. -/
theorem era_put (t : St) {g : Gr} (h : g.fine) (x : List Opn) {o : Opn} (ho : o.k = 10 ∨ (o.k = 8 ∧ oIno o = t)) : era t (runG g (putO x o).1) = era t (runG g x) := by
  unfold putO
  split
  · rfl
  · split
    · rfl
    · show era t (runG g (putIn _ x o)) = _
      rw [putIn_place, era_skip t h _ _ ho, List.take_append_drop]

/-- What stays behind them: entries, how many inodes, an inode's links, and its data. -/
theorem era_stays {t : St} {g h : Gr} (hg : era t g = era t h) {id : St} (hn : id ≠ t) : g.E = h.E ∧ g.I.length = h.I.length ∧ ((getG g id).getD noIno).data = ((getG h id).getD noIno).data ∧ ((getG g id).getD noIno).links = ((getG h id).getD noIno).links := by
  refine ⟨era_E t hg, ?_, era_data t hg hn, ?_⟩
  · rw [← era_len t g, ← era_len t h, hg]
  · have h1 := era_links t g id
    have h2 := era_links t h id
    rw [hg] at h1
    unfold linksG at h1 h2
    rw [← h1, ← h2]

end Go.Proofs.YtdobeghbkonimaaGreatDoor.GraphMath

/-
  A mode of one inode, and data of another one, that come from anywhere among other operations, change no entry, and nothing else of the first inode: for all lists of operations (60 at most) and all two operations (made by gen_foldlater.py).
-/
namespace Go.Proofs.YtdobeghbkonimaaGreatDoor.lawFoldLater
open Go.RowKit StampMath GraphMath OpMath PackMath

theorem kept_of {C : Prop} {V W : World} (h : C ∧ KeptFrom V W) : Below V.heap.size V W := h.2

theorem later_len {x : List Opn} {o : Opn} (h : (GraphMath.putO x o).2.2 = true) : (GraphMath.putO x o).1.length = x.length + 1 := by
  have hpl := place_le x (oSt o)
  unfold GraphMath.putO at h ⊢
  by_cases hm : mayO o = false
  · rw [if_pos hm] at h; cases h
  rw [if_neg hm] at h ⊢
  by_cases hh : hasO x (oSt o) = true
  · rw [if_pos hh] at h; cases h
  rw [if_neg hh]
  exact putIn_len _ _ _

set_option maxRecDepth 100000 in
set_option maxHeartbeats 6400000 in
theorem core {H : GraphHave} (P : FoldHave H) (A : Option Addr) (n c : Nat) (l : List Opn) (o x : Opn) (hl : ∀ a ∈ l, OpFit a) (ho : OpFit o) (hx : OpFit x) (w : World) (T : Tab w) (h : OpsIn w w.heap.size A n l) :
    Calls Tryz.prog 9 #[.slice A n c, .agg (opA o), .agg (opA x)] w fun e w' => e = .returned (.bool true) ∧ Below w.heap.size w w' := by
  have HX := Lib.hid h
  have HF := Lib.hid hl
  have HO := Lib.hid ho
  have HXF := Lib.hid hx
  have hH0 : Held w [(w.heap.size + 1, .cells (opA x) 26), (w.heap.size, .cells (opA o) 26)] ((w.alloc (.cells (opA o) 26)).alloc (.cells (opA x) 26)) :=
    ((Held.refl w).alloc (.cells (opA o) 26) rfl).alloc (.cells (opA x) 26) (by simp)
  clear h hl ho hx
  go_enter Tryz.func9, Tryz.ntmps9
  go_upto_region 1 with fail
  generalize (w.alloc (.cells (opA o) 26)).alloc (.cells (opA x) 26) = w0 at hH0 ⊢
  have T0 := Lib.hid (tab_below T (Nat.le_refl _) hH0.below)
  have H0 := Lib.hid hH0
  obtain ⟨u, hu⟩ : ∃ u, u = w.heap.size := ⟨_, rfl⟩
  rw [← hu] at H0
  clear hH0
  go_wp2_with fail
  refine (FoldHave.shown P _ T0.out).mono ?_
  rintro e w1 ⟨rfl, hb1⟩
  have H1 := Lib.hid (H0.out.step hb1)
  clear hb1 H0 T0
  rw [← hu]
  clear hu
  obtain ⟨c0, c1, c2, c3, c4, c5, c6, c7, c8, c9, c10, c11, c12⟩ := op_cells (o := o) (g := u) (H1.out.at 1 rfl)
  go_wp2_with fail
  refine (fewF_any A n c _).mono ?_
  rintro e w2 ⟨rfl, hb2⟩
  have H2 := Lib.hid (H1.out.step hb2)
  clear hb2 H1 c0 c1 c2 c3 c4 c5 c6 c7 c8 c9 c10 c11 c12
  obtain ⟨c0, c1, c2, c3, c4, c5, c6, c7, c8, c9, c10, c11, c12⟩ := op_cells (o := o) (g := u) (H2.out.at 1 rfl)
  obtain ⟨d0, d1, d2, d3, d4, d5, d6, d7, d8, d9, d10, d11, d12⟩ := op_cells (o := x) (g := u + 1) (H2.out.at 0 rfl)
  have B2 := Lib.hid H2.out.below
  by_cases hn : n ≤ 60
  case neg =>
    have hd : decide (n ≤ 60) = false := decide_eq_false hn
    go_wp2_with fail
    go_ret
    exact ⟨rfl, B2.out⟩
  have hd : decide (n ≤ 60) = true := decide_eq_true hn
  by_cases hok : o.k = 10
  case neg =>
    have hok' : (o.k != 10) = true := by rw [bne_iff_ne]; exact hok
    go_wp2_with fail
    go_ret
    exact ⟨rfl, B2.out⟩
  by_cases hxk : x.k = 8
  case neg =>
    have hok' : (o.k != 10) = false := by rw [hok]; rfl
    have hxk' : (x.k != 8) = true := by rw [bne_iff_ne]; exact hxk
    clear hok
    go_wp2_with fail
    go_ret
    exact ⟨rfl, B2.out⟩
  have hv : ∀ W : World, (Op.equalIn 10000 24 (.agg #[.int .i64 o.it, .int .i64 o.ir]) (.agg #[.int .i64 x.it, .int .i64 x.ir])).run Tryz.prog W = .ok (decide (oIno o = oIno x)) W := fun W => run_eqSt _ _ _ _ W
  have hok' : (o.k != 10) = false := by rw [hok]; rfl
  have hxk' : (x.k != 8) = false := by rw [hxk]; rfl
  have HOK := Lib.hid hok
  have HXK := Lib.hid hxk
  clear hok hxk
  by_cases hio : oIno o = oIno x
  case pos =>
    rw [decide_eq_true hio] at hv
    clear hio
    go_wp2_with fail
    go_ret
    exact ⟨rfl, B2.out⟩
  rw [decide_eq_false hio] at hv
  have HIO := Lib.hid hio
  have hll : l.length = n := HX.out.len
  have T2 := Lib.hid (tab_below T (Nat.le_refl _) B2.out)
  have hsl := sort_len l
  -- the mathematics
  have HM : Hid (∃ y p q z r v, GraphMath.putO (sortO l) o = (y, p, q) ∧ GraphMath.putO y x = (z, r, v) ∧ (v = true → z.length = y.length + 1) ∧ (∀ a ∈ y, OpFit a) ∧ (∀ a ∈ z, OpFit a) ∧ Rises y ∧ y.length ≤ (sortO l).length + 1 ∧ z.length ≤ y.length + 1 ∧
      (runA (sortO z)).E = (runA (sortO l)).E ∧ (runA (sortO z)).I.length = (runA (sortO l)).I.length ∧ ((getG (runA (sortO z)) (oIno o)).getD noIno).data = ((getG (runA (sortO l)) (oIno o)).getD noIno).data ∧ ((getG (runA (sortO z)) (oIno o)).getD noIno).links = ((getG (runA (sortO l)) (oIno o)).getD noIno).links) := by
    refine ⟨(GraphMath.putO (sortO l) o).1, (GraphMath.putO (sortO l) o).2.1, (GraphMath.putO (sortO l) o).2.2, (GraphMath.putO (GraphMath.putO (sortO l) o).1 x).1, (GraphMath.putO (GraphMath.putO (sortO l) o).1 x).2.1, (GraphMath.putO (GraphMath.putO (sortO l) o).1 x).2.2, rfl, rfl, later_len, ?_, ?_, put_rises (sort_rises l) o, put_len _ _, put_len _ _, ?_⟩
    · intro a ha
      rcases put_mem.1 ha with q | ⟨rfl, _⟩
      · exact HF.out a (sort_sub a q)
      · exact HO.out
    · intro a ha
      rcases put_mem.1 ha with q | ⟨rfl, _⟩
      · rcases put_mem.1 q with q | ⟨rfl, _⟩
        · exact HF.out a (sort_sub a q)
        · exact HO.out
      · exact HXF.out
    · rw [sort_self (put_rises (put_rises (sort_rises l) o) x) (put_may (put_may (sort_may l) o) x)]
      have e1 := era_put (oIno x) new_fine (sortO l) (o := o) (Or.inl HOK.out)
      have e2 := era_put (oIno x) new_fine (GraphMath.putO (sortO l) o).1 (o := x) (Or.inr ⟨HXK.out, rfl⟩)
      exact era_stays (e2.trans e1) HIO.out
  obtain ⟨y, p, q, z, r, v, hp1, hp2, hvz, hfy, hfz, hry, hyl, hzl, hE, hI, hdat, hlin⟩ := HM.out
  obtain ⟨t, ht⟩ : ∃ t, t = sortO l := ⟨_, rfl⟩
  have HS1 := Lib.hid (sort_rises l)
  have HS3 : Hid (∀ a ∈ sortO l, OpFit a) := Lib.hid fun a ha => HF.out a (sort_sub a ha)
  have HSRT : Hid (∀ W, Below w2.heap.size w2 W → Calls Tryz.prog 12 #[.slice A n c] W (OpsPost (sortO l) W)) := Lib.hid fun W hW =>
    have := tab_below T2.out (Nat.le_refl _) hW
    P.sort A n c l W (by omega) HF.out ((HX.out.below (below_step B2.out hW)).more (below_step B2.out hW).size)
  have HOF : Hid (∀ W, Below w2.heap.size w2 W → Calls Tryz.prog 16 #[.slice A n c] W fun e w' => ∃ a, e = .returned (.pointer (some a)) ∧ FX H W w' (fun _ => False) a (runA (sortO l)) ∧ Below W.heap.size W w') := Lib.hid fun W hW =>
    FX.of P A n c l W (tab_below T2.out (Nat.le_refl _) hW) (by omega) HF.out ((HX.out.below (below_step B2.out hW)).more (below_step B2.out hW).size)
  rw [← ht] at hp1 hyl hE hI hdat hlin HS1 HS3 HSRT HOF hsl
  have HP1 : Hid (∀ (W : World) (B : Option Addr) (k : Nat), Below w2.heap.size w2 W → OpsIn W W.heap.size B t.length t → t.length ≤ k → k ≤ maxLen → (B = none → k = 0) → Calls Tryz.prog 13 #[.slice B t.length k, .agg (opA o)] W fun e w' => ∃ (B : Option Addr) (k : Nat), e = .returned (.tuple #[.slice B y.length k, .int .i64 (p : Int), .bool q]) ∧ OpsIn w' w'.heap.size B y.length y ∧ y.length ≤ k ∧ k ≤ maxLen ∧ (B = none → k = 0) ∧ Below W.heap.size W w') := Lib.hid fun W B k hW h1 h2 h3 h4 => by
    have := tab_below T2.out (Nat.le_refl _) hW
    have := P.put B t.length k t o W (by omega) h2 h3 h4 HS3.out HO.out HS1.out h1
    rw [hp1] at this
    exact this
  have HP2 : Hid (∀ (W : World) (B : Option Addr) (k : Nat), Below w2.heap.size w2 W → OpsIn W W.heap.size B y.length y → y.length ≤ k → k ≤ maxLen → (B = none → k = 0) → Calls Tryz.prog 13 #[.slice B y.length k, .agg (opA x)] W fun e w' => ∃ (B : Option Addr) (k : Nat), e = .returned (.tuple #[.slice B z.length k, .int .i64 (r : Int), .bool v]) ∧ OpsIn w' w'.heap.size B z.length z ∧ z.length ≤ k ∧ k ≤ maxLen ∧ (B = none → k = 0) ∧ Below W.heap.size W w') := Lib.hid fun W B k hW h1 h2 h3 h4 => by
    have := tab_below T2.out (Nat.le_refl _) hW
    have := P.put B y.length k y x W (by omega) h2 h3 h4 hfy HXF.out hry h1
    rw [hp2] at this
    exact this
  have HOZ : Hid (∀ (W : World) (B : Option Addr) (k : Nat), Below w2.heap.size w2 W → OpsIn W W.heap.size B z.length z → Calls Tryz.prog 16 #[.slice B z.length k] W fun e w' => ∃ a, e = .returned (.pointer (some a)) ∧ FX H W w' (fun _ => False) a (runA (sortO z)) ∧ Below W.heap.size W w') := Lib.hid fun W B k hW h1 =>
    FX.of P B z.length k z W (tab_below T2.out (Nat.le_refl _) hW) (by omega) hfz h1
  obtain ⟨g1, hg1⟩ : ∃ g, g = runA t := ⟨_, rfl⟩
  obtain ⟨g2, hg2⟩ : ∃ g, g = runA (sortO z) := ⟨_, rfl⟩
  have HVZ := Lib.hid hvz
  have HYL : Hid (y.length ≤ 61) := by show _ ≤ _; omega
  rw [← hg1] at HOF hE hI hdat hlin
  rw [← hg2] at HOZ hE hI hdat hlin
  have HIL : Hid ((inodesG g2).length = (inodesG g1).length) := by
    show _ = _
    unfold inodesG
    rw [List.length_map, List.length_map, hI]
  obtain ⟨n1, hn1⟩ : ∃ m, m = (getG g1 (oIno o)).getD noIno := ⟨_, rfl⟩
  obtain ⟨n2, hn2⟩ : ∃ m, m = (getG g2 (oIno o)).getD noIno := ⟨_, rfl⟩
  rw [← hn1, ← hn2] at hdat hlin
  have HDL := Lib.hid (And.intro hdat hlin)
  have HEE := Lib.hid hE
  have HN := Lib.hid (And.intro hn1 hn2)
  have HC : Hid ((w2.cell? ⟨u, 0, none⟩ = some (.int .i64 o.st) ∧ w2.cell? ⟨u, 1, none⟩ = some (.int .i64 o.sr) ∧ w2.cell? ⟨u, 2, none⟩ = some (.int .i64 o.k) ∧ w2.cell? ⟨u, 3, none⟩ = some (.int .i64 o.pt) ∧ w2.cell? ⟨u, 4, none⟩ = some (.int .i64 o.pr) ∧ w2.cell? ⟨u, 5, none⟩ = some (.int .i64 o.it) ∧ w2.cell? ⟨u, 6, none⟩ = some (.int .i64 o.ir) ∧ w2.cell? ⟨u, 7, none⟩ = some (.int .i64 o.tt) ∧ w2.cell? ⟨u, 8, none⟩ = some (.int .i64 o.tr) ∧ w2.cell? ⟨u, 9, none⟩ = some (.string o.name) ∧ w2.cell? ⟨u, 10, none⟩ = some (.string o.new) ∧ w2.cell? ⟨u, 11, none⟩ = some (.int .i64 o.off) ∧ w2.cell? ⟨u, 12, none⟩ = some (.string o.data))) := ⟨c0, c1, c2, c3, c4, c5, c6, c7, c8, c9, c10, c11, c12⟩
  have HS : Hid (∀ W, Below w2.heap.size w2 W → (W.cell? ⟨u, 0, none⟩ = some (.int .i64 o.st) ∧ W.cell? ⟨u, 1, none⟩ = some (.int .i64 o.sr) ∧ W.cell? ⟨u, 2, none⟩ = some (.int .i64 o.k) ∧ W.cell? ⟨u, 3, none⟩ = some (.int .i64 o.pt) ∧ W.cell? ⟨u, 4, none⟩ = some (.int .i64 o.pr) ∧ W.cell? ⟨u, 5, none⟩ = some (.int .i64 o.it) ∧ W.cell? ⟨u, 6, none⟩ = some (.int .i64 o.ir) ∧ W.cell? ⟨u, 7, none⟩ = some (.int .i64 o.tt) ∧ W.cell? ⟨u, 8, none⟩ = some (.int .i64 o.tr) ∧ W.cell? ⟨u, 9, none⟩ = some (.string o.name) ∧ W.cell? ⟨u, 10, none⟩ = some (.string o.new) ∧ W.cell? ⟨u, 11, none⟩ = some (.int .i64 o.off) ∧ W.cell? ⟨u, 12, none⟩ = some (.string o.data)) ∧ KeptFrom w2 W) := Lib.hid fun W hW => ⟨⟨cell_later hW c0, cell_later hW c1, cell_later hW c2, cell_later hW c3, cell_later hW c4, cell_later hW c5, cell_later hW c6, cell_later hW c7, cell_later hW c8, cell_later hW c9, cell_later hW c10, cell_later hW c11, cell_later hW c12⟩, hW⟩
  unfold OpsPost at HSRT
  unfold opA at HP1 HP2
  clear HM hp1 hp2 hvz hfy hfz hry hyl hzl hE hI hdat hlin hg1 hg2 hn1 hn2 ht hsl HS1 HS3 hio
  clear c3 c4 c7 c8 c9 c10 c11 c12 d0 d1 d3 d4 d7 d8 d9 d10 d11 d12
  go_wp2_with fail
  clear c0 c1 c2 c5 c6 d2 d5 d6 hv hok' hxk' hd
  have hS0 := HS.out _ (Below.refl _ _)
  have hS1 := HS.out _ (Below.refl _ _).drew
  go_region_held3 (fun W => (W.cell? ⟨u, 0, none⟩ = some (.int .i64 o.st) ∧ W.cell? ⟨u, 1, none⟩ = some (.int .i64 o.sr) ∧ W.cell? ⟨u, 2, none⟩ = some (.int .i64 o.k) ∧ W.cell? ⟨u, 3, none⟩ = some (.int .i64 o.pt) ∧ W.cell? ⟨u, 4, none⟩ = some (.int .i64 o.pr) ∧ W.cell? ⟨u, 5, none⟩ = some (.int .i64 o.it) ∧ W.cell? ⟨u, 6, none⟩ = some (.int .i64 o.ir) ∧ W.cell? ⟨u, 7, none⟩ = some (.int .i64 o.tt) ∧ W.cell? ⟨u, 8, none⟩ = some (.int .i64 o.tr) ∧ W.cell? ⟨u, 9, none⟩ = some (.string o.name) ∧ W.cell? ⟨u, 10, none⟩ = some (.string o.new) ∧ W.cell? ⟨u, 11, none⟩ = some (.int .i64 o.off) ∧ W.cell? ⟨u, 12, none⟩ = some (.string o.data)) ∧ KeptFrom w2 W) (first | (with_reducible assumption))
    (first
      | (go_at_call 12; (with_reducible refine (HSRT.out _ (kept_of (by assumption))).mono ?_); rintro e w3 ⟨X, cx, rfl, qx, qc, qm, q0, hb3⟩; have hS3 := HS.out _ (below_step (kept_of (by assumption)) hb3))
      | (go_at_call 13; (with_reducible refine (HP1.out _ _ _ (kept_of (by assumption)) (by assumption) (by assumption) (by assumption) (by assumption)).mono ?_); rintro e w4 ⟨Y, cy, rfl, py, pc, pm, p0, hb4⟩; have hS4 := HS.out _ (below_step (kept_of (by assumption)) hb4)))
  all_goals
    have B4 := Lib.hid (kept_of hS4)
    have HY := Lib.hid (And.intro py (And.intro pc (And.intro pm p0)))
    clear hS0 hS1 hS3 hS4 qx qc qm q0 hb3 py pc pm p0 hb4 HSRT HP1
    have H4 := Lib.hid (H2.out.step B4.out)
    obtain ⟨d0, d1, d2, d3, d4, d5, d6, d7, d8, d9, d10, d11, d12⟩ := op_cells (o := x) (g := u + 1) (H4.out.at 0 rfl)
    go_wp2_with fail
    refine (HP2.out _ _ _ B4.out HY.out.1 HY.out.2.1 HY.out.2.2.1 HY.out.2.2.2).mono ?_
    rintro e w5 ⟨Z, cz, rfl, hz, _, _, _, hb5⟩
    have B5 := Lib.hid (below_step B4.out hb5)
    have HZ := Lib.hid hz
    have D := Lib.hid (HOF.out _ B5.out)
    clear d0 d1 d2 d3 d4 d5 d6 d7 d8 d9 d10 d11 d12 hz hb5 HP2 HY H4 HOF
    go_wp2_with fail
    refine D.out.mono ?_
    rintro e w6 ⟨a1, rfl, x6, hb6⟩
    have B6 := Lib.hid (below_step B5.out hb6)
    have HZ6 := Lib.hid ((HZ.out.below hb6).more hb6.size)
    have X6 := Lib.hid x6
    obtain ⟨c0, c1, c2, c3, c4, c5, c6, c7, c8, c9, c10, c11, c12⟩ := op_cells (o := o) (g := u) ((H2.out.step B6.out).at 1 rfl)
    have D6 := Lib.hid (GX.get x6.gx (oIno o))
    rw [← HN.out.1] at D6
    change Hid (Calls _ _ #[_, .agg #[.int .i64 o.it, .int .i64 o.ir]] _ _) at D6
    clear x6 hb6 D HZ
    go_wp2_with fail
    refine D6.out.mono ?_
    rintro e w7 ⟨rfl, x7, hb7⟩
    clear c0 c1 c2 c3 c4 c5 c6 c7 c8 c9 c10 c11 c12
    have hA : Below w7.heap.size w7 (w7.alloc (.cells (inoA n1) 59)) := (Below.refl _ _).alloc (Nat.le_refl _) _
    have hN7 := heap_alloc_new w7 (.cells (inoA n1) 59)
    have B7 := Lib.hid (below_step B6.out (below_step hb7 hA))
    have HZ7 := Lib.hid ((HZ6.out.below (below_step hb7 hA)).more (below_step hb7 hA).size)
    have X7 := Lib.hid (X6.out.step (below_step hb7 hA))
    obtain ⟨m1, hm1⟩ : ∃ m, m = w7.heap.size := ⟨_, rfl⟩
    rw [← hm1] at hN7
    unfold inoA at hN7 B7 HZ7 X7 ⊢
    clear x7 hb7 D6 HZ6 X6 hA
    go_upto_region 8 with fail
    rw [← hm1]
    change Code.wp _ _ _ _ (w7.alloc (.cells #[.int .i64 n1.id.1, .int .i64 n1.id.2, .int .i64 n1.kind, .int .i64 n1.links, .int .i64 n1.mode, .string n1.data] 59))
    clear hm1
    generalize w7.alloc (.cells #[.int .i64 n1.id.1, .int .i64 n1.id.2, .int .i64 n1.kind, .int .i64 n1.links, .int .i64 n1.mode, .string n1.data] 59) = w8 at hN7 B7 HZ7 X7 ⊢
    have HN8 := Lib.hid hN7
    have D8 := Lib.hid (HOZ.out _ _ cz B7.out HZ7.out)
    clear hN7 HOZ HZ7
    go_wp2_with fail
    refine D8.out.mono ?_
    rintro e w9 ⟨a2, rfl, x9, hb9⟩
    have B9 := Lib.hid (below_step B7.out hb9)
    have X9 := Lib.hid x9
    have X9a := Lib.hid (X7.out.step hb9)
    have HN9 := Lib.hid ((hb9.block _ (heap_lt HN8.out)).trans HN8.out)
    obtain ⟨c0, c1, c2, c3, c4, c5, c6, c7, c8, c9, c10, c11, c12⟩ := op_cells (o := o) (g := u) ((H2.out.step B9.out).at 1 rfl)
    have D9 := Lib.hid (GX.get x9.gx (oIno o))
    rw [← HN.out.2] at D9
    change Hid (Calls _ _ #[_, .agg #[.int .i64 o.it, .int .i64 o.ir]] _ _) at D9
    clear x9 hb9 D8 X7 HN8
    go_wp2_with fail
    refine D9.out.mono ?_
    rintro e w10 ⟨rfl, x10, hb10⟩
    clear c0 c1 c2 c3 c4 c5 c6 c7 c8 c9 c10 c11 c12
    have hA : Below w10.heap.size w10 (w10.alloc (.cells (inoA n2) 59)) := (Below.refl _ _).alloc (Nat.le_refl _) _
    have hN10 := heap_alloc_new w10 (.cells (inoA n2) 59)
    have B10 := Lib.hid (below_step B9.out (below_step hb10 hA))
    have Y1 := Lib.hid (X9a.out.step (below_step hb10 hA))
    have Y2 := Lib.hid (X9.out.step (below_step hb10 hA))
    have hN1 := ((below_step hb10 hA).block _ (heap_lt HN9.out)).trans HN9.out
    obtain ⟨m2, hm2⟩ : ∃ m, m = w10.heap.size := ⟨_, rfl⟩
    rw [← hm2] at hN10
    unfold inoA at hN10 B10 Y1 Y2 hN1 ⊢
    clear x10 hb10 D9 X9 X9a hA HN9
    go_upto_region 10 with fail
    rw [← hm2]
    change Code.wp _ _ _ _ (w10.alloc (.cells #[.int .i64 n2.id.1, .int .i64 n2.id.2, .int .i64 n2.kind, .int .i64 n2.links, .int .i64 n2.mode, .string n2.data] 59))
    clear hm2
    generalize w10.alloc (.cells #[.int .i64 n2.id.1, .int .i64 n2.id.2, .int .i64 n2.kind, .int .i64 n2.links, .int .i64 n2.mode, .string n2.data] 59) = w11 at hN10 B10 Y1 Y2 hN1 ⊢
    have BW := Lib.hid (below_step B2.out B10.out)
    have HA1 := Lib.hid hN1
    have HA2 := Lib.hid hN10
    clear hN1 hN10
    cases q with
    | false =>
      go_wp2_with fail
      go_ret
      exact ⟨rfl, BW.out⟩
    | true =>
      cases v with
      | false =>
        go_wp2_with fail
        go_ret
        exact ⟨rfl, BW.out⟩
      | true =>
        have hyb : (y.length : Int) ≤ 61 := by have := HYL.out; omega
        have hzl : ((z.length : Int) == (y.length : Int) + 1) = true := by have := HVZ.out rfl; rw [beq_iff_eq]; omega
        obtain ⟨S1, s1, _⟩ := Y1.out.gx.at'
        obtain ⟨S2, s2, _⟩ := Y2.out.gx.at'
        have E2 := Lib.hid (told_ents H s2 Y2.out.fine.ok (Below.refl _ _))
        have E1 : Hid (∀ W, Below w11.heap.size w11 W → Calls Tryz.prog 27 #[.pointer (some a1)] W (EntsPost g1.E W)) := Lib.hid fun W hW => told_ents H s1 Y1.out.fine.ok hW
        have I2 : Hid (∀ W, Below w11.heap.size w11 W → Calls Tryz.prog 24 #[.pointer (some a2)] W (InosPost (inodesG g2) W)) := Lib.hid fun W hW => told_inos H s2 Y2.out.fine.ok hW
        have I1 : Hid (∀ W, Below w11.heap.size w11 W → Calls Tryz.prog 24 #[.pointer (some a1)] W (InosPost (inodesG g1) W)) := Lib.hid fun W hW => told_inos H s1 Y1.out.fine.ok hW
        unfold EntsPost at E1 E2
        unfold InosPost at I1 I2
        rw [HEE.out] at E2
        rw [HIL.out] at I2
        generalize inodesG g1 = J1 at I1 I2
        generalize inodesG g2 = J2 at I2
        generalize g1.E = F1 at E1 E2
        clear s1 s2
        go_wp2_with fail
        refine E2.out.mono ?_
        rintro e w12 ⟨_, _, rfl, _, _, _, _, hb12⟩
        have B12 := Lib.hid hb12
        clear hb12 E2
        go_wp2_with fail
        refine (E1.out _ B12.out).mono ?_
        rintro e w13 ⟨_, _, rfl, _, _, _, _, hb13⟩
        have B13 := Lib.hid (below_step B12.out hb13)
        clear hb13 E1 B12
        go_wp2_with fail
        refine (I2.out _ B13.out).mono ?_
        rintro e w14 ⟨_, _, rfl, _, _, _, _, hb14⟩
        have B14 := Lib.hid (below_step B13.out hb14)
        clear hb14 I2 B13
        go_wp2_with fail
        refine (I1.out _ B14.out).mono ?_
        rintro e w15 ⟨_, _, rfl, _, _, _, _, hb15⟩
        have B15 := Lib.hid (below_step B14.out hb15)
        clear hb15 I1 B14
        have k1 := (B15.out.block _ (heap_lt HA1.out)).trans HA1.out
        have k2 := (B15.out.block _ (heap_lt HA2.out)).trans HA2.out
        have a3 : w15.cell? ⟨m1, 3, none⟩ = some (.int .i64 n1.links) := cell_of_row _ _ 3 _ _ (0, 0) k1
        have a5 : w15.cell? ⟨m1, 5, none⟩ = some (.string n1.data) := cell_of_row _ _ 5 _ _ (0, 0) k1
        have b3 : w15.cell? ⟨m2, 3, none⟩ = some (.int .i64 n2.links) := cell_of_row _ _ 3 _ _ (0, 0) k2
        have b5 : w15.cell? ⟨m2, 5, none⟩ = some (.string n2.data) := cell_of_row _ _ 5 _ _ (0, 0) k2
        rw [HDL.out.2] at b3
        rw [HDL.out.1] at b5
        generalize n1.links = L1 at a3 b3
        generalize n1.data = D1 at a5 b5
        clear k1 k2
        go_wp2_with fail
        go_ret
        exact ⟨rfl, below_step BW.out B15.out⟩

theorem walk0 {H : GraphHave} (P : FoldHave H) (_ : ApplyHave H) (a0A : Option Addr) (a0n : Nat) (a0c : Nat) (a0x : List Opn) (a1 : Opn) (a2 : Opn) (w : World) [T : Tab w] (_ : a0n ≤ a0c) (_ : a0c ≤ maxLen) (w0x : ∀ x ∈ a0x, OpFit x) (w0d : OpsIn w w.heap.size a0A a0n a0x) (w1 : Ok64 a1) (w1a : a1.name.size ≤ maxLen) (w1b : a1.new.size ≤ maxLen) (w1c : a1.data.size ≤ maxLen) (w2 : Ok64 a2) (w2a : a2.name.size ≤ maxLen) (w2b : a2.new.size ≤ maxLen) (w2c : a2.data.size ≤ maxLen) :
    Calls Tryz.prog 9 #[.slice a0A a0n a0c, .agg (opA a1), .agg (opA a2)] w fun e w' => e = .returned (.bool true) ∧ Below w.heap.size w w' :=
  core P a0A a0n a0c a0x a1 a2 w0x ⟨w1, w1a, w1b, w1c⟩ ⟨w2, w2a, w2b, w2c⟩ w T w0d

end Go.Proofs.YtdobeghbkonimaaGreatDoor.lawFoldLater
