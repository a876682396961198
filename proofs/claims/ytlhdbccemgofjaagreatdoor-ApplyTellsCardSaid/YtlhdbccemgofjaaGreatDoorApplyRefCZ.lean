/-
  The walks of the document's own gone, tie and set (operations on graphs).
-/
import Derived.Test.YtlhdbccemgofjaaGreatDoorApplyRefAZ
import Derived.Test.YtlhdbccemgofjaaGreatDoorGraphRefTie2Z
import Derived.Test.YtlhdbccemgofjaaGreatDoorGraphRefSetWZ
import Derived.Test.YtlhdbccemgofjaaGreatDoorGraphRefUntieZ
import Derived.Test.YtlhdbccemgofjaaGreatDoorGraphRefDropZ
import Derived.Test.YtlhdbccemgofjaaGreatDoorZ01
import Derived.Test.YtlhdbccemgofjaaGreatDoorGraphPutZ
namespace Go.Proofs.YtlhdbccemgofjaaGreatDoor
open Go.RowKit StampMath GraphMath OpMath

/-- A graph is answered. -/
def G1Post (N : Nat → Prop) (r : Gr) (w : World) (e : Ending) (w' : World) : Prop :=
  ∃ (A : Option Addr) (n c : Nat) (A' : Option Addr) (m d : Nat), e = .returned (.agg #[.slice A n c, .slice A' m d]) ∧ GrAt (MoreN N w) w' (.agg #[.slice A n c, .slice A' m d]) r ∧ Below w.heap.size w w'

theorem G1Post.of {N : Nat → Prop} {r : Gr} {w w' W : World} {v : Value} (hb : Below w.heap.size w W) (h : GrAt (MoreN N W) w' v r) : GrAt (MoreN N w) w' v r := h.keep (fun _ _ => rfl) (Nat.le_refl _) fun _ hi => hi.elim .inl fun q => .inr (Nat.le_trans hb.size q)

theorem GraphMath.Gr.ok.len0 {g : Gr} (h : g.ok) : 0 < g.I.length := by
  obtain ⟨x, hx, _⟩ := h.root
  exact List.length_pos_of_mem hx

theorem GraphMath.Gr.ok.lenI {g : Gr} (h : g.ok) : g.I.length ≤ 1000 := Nat.le_trans h.few (by decide)
theorem GraphMath.Gr.ok.lenE {g : Gr} (h : g.ok) : g.E.length ≤ 1000 := Nat.le_trans h.entsFew (by decide)

set_option maxRecDepth 100000 in
set_option maxHeartbeats 800000 in
theorem refTie1 (N : Nat → Prop) (v : Value) (g : Gr) (at' : St) (nm : ByteArray) (ino : St) (hg : g.ok) (hs : nm.size ≤ 9223372036854775807) (w : World) (hv : GrAt N w v g) :
    Calls Tryz.prog 41 #[v, .agg (stA at'), .string nm, .agg (stA ino)] w (G1Post N (tie1 g at' nm ino) w) := by
  obtain ⟨A, n, c, A', m, d, rfl⟩ := hv.form
  have hbox : Below w.heap.size w ((((w.alloc (.cells #[.slice A n c, .slice A' m d] 30)).alloc (.cells #[.int .i64 at'.1, .int .i64 at'.2] 35)).alloc (.cells #[.int .i64 ino.1, .int .i64 ino.2] 35)).alloc (.cells #[.slice none 0 0, .slice none 0 0] 30)) := (((((Below.refl w.heap.size w).alloc (by simp <;> omega) _).alloc (by simp <;> omega) _).alloc (by simp <;> omega) _).alloc (by simp <;> omega) _)
  have hv2 := hv.live.step (N' := fun i => N i ∧ i < w.heap.size) hbox
  have hx := heap_alloc_new (((w.alloc (.cells #[.slice A n c, .slice A' m d] 30)).alloc (.cells #[.int .i64 at'.1, .int .i64 at'.2] 35)).alloc (.cells #[.int .i64 ino.1, .int .i64 ino.2] 35)) (.cells #[.slice none 0 0, .slice none 0 0] 30)
  rw [World.size_alloc, World.size_alloc, World.size_alloc] at hx
  have HC := Lib.hid (refTie (fun i => N i ∧ i < w.heap.size) _ g ⟨at', nm, ino⟩ hg.lenI hg.lenE hs _ hv2)
  have HX : Hid (((((w.alloc (.cells #[.slice A n c, .slice A' m d] 30)).alloc (.cells #[.int .i64 at'.1, .int .i64 at'.2] 35)).alloc (.cells #[.int .i64 ino.1, .int .i64 ino.2] 35)).alloc (.cells #[.slice none 0 0, .slice none 0 0] 30)).heap[(w.heap.size + 1 + 1 + 1)]? = some (.cells #[.slice none 0 0, .slice none 0 0] 30 (0, 0))) := hx
  have HB : Hid (Below w.heap.size w ((((w.alloc (.cells #[.slice A n c, .slice A' m d] 30)).alloc (.cells #[.int .i64 at'.1, .int .i64 at'.2] 35)).alloc (.cells #[.int .i64 ino.1, .int .i64 ino.2] 35)).alloc (.cells #[.slice none 0 0, .slice none 0 0] 30))) := hbox
  have HSZ : Hid (((((w.alloc (.cells #[.slice A n c, .slice A' m d] 30)).alloc (.cells #[.int .i64 at'.1, .int .i64 at'.2] 35)).alloc (.cells #[.int .i64 ino.1, .int .i64 ino.2] 35)).alloc (.cells #[.slice none 0 0, .slice none 0 0] 30)).heap.size = (w.heap.size + 1 + 1 + 1) + 1) := Lib.hid (by simp only [World.size_alloc])
  clear hv hv2 hg hx hbox hs
  unfold entA at HC
  unfold tie1 stA
  go_enter Tryz.func41, Tryz.ntmps41
  go_wp2_with fail
  refine HC.out.mono ?_
  rintro e w1 ⟨v, rfl, q⟩
  obtain ⟨B, k, l, B', k', l', rfl⟩ := q.1.form
  have hx1 := (q.2.block _ (heap_lt HX.out)).trans HX.out
  have hz := heap_lt hx1
  have q2 := Lib.hid (want_alloc (want_put (N := N) (b := (w.heap.size + 1 + 1 + 1)) (by omega) HSZ.out HB.out q (.slice B k l) (.slice B' k' l')) (.cells #[.slice B k l, .slice B' k' l'] 30))
  obtain ⟨m2, m3⟩ := two_cells hx1
  obtain ⟨f2, f3⟩ := two_free hx1
  obtain ⟨p0, p1⟩ := put_cells (x' := .slice B k l) (y' := .slice B' k' l') hx1 (.cells #[.slice B k l, .slice B' k' l'] 30)
  clear q HC hx1 HX HB
  go_wp2_with fail
  exact bodyPost_ret (v := .agg #[.slice B k l, .slice B' k' l']) (by simp [results, Tryz.results41, go_sem, p0, p1]) rfl ⟨_, _, _, _, _, _, rfl, q2.out⟩

set_option maxRecDepth 100000 in
set_option maxHeartbeats 800000 in
theorem refSet1 (N : Nat → Prop) (v : Value) (g : Gr) (id : St) (mode : Int) (data : ByteArray) (hg : g.ok) (w : World) (hv : GrAt N w v g) :
    Calls Tryz.prog 42 #[v, .agg (stA id), .int .i64 mode, .string data] w (G1Post N (setG g id mode data).1 w) := by
  obtain ⟨A, n, c, A', m, d, rfl⟩ := hv.form
  have hbox : Below w.heap.size w (((w.alloc (.cells #[.slice A n c, .slice A' m d] 30)).alloc (.cells #[.int .i64 id.1, .int .i64 id.2] 35)).alloc (.cells #[.slice none 0 0, .slice none 0 0] 30)) := ((((Below.refl w.heap.size w).alloc (by simp <;> omega) _).alloc (by simp <;> omega) _).alloc (by simp <;> omega) _)
  have hv2 := hv.live.step (N' := fun i => N i ∧ i < w.heap.size) hbox
  have hx := heap_alloc_new ((w.alloc (.cells #[.slice A n c, .slice A' m d] 30)).alloc (.cells #[.int .i64 id.1, .int .i64 id.2] 35)) (.cells #[.slice none 0 0, .slice none 0 0] 30)
  rw [World.size_alloc, World.size_alloc] at hx
  have HC := Lib.hid (refSet (fun i => N i ∧ i < w.heap.size) _ g id mode data hg.len0 hg.lenI hg.lenE _ hv2)
  have HX : Hid ((((w.alloc (.cells #[.slice A n c, .slice A' m d] 30)).alloc (.cells #[.int .i64 id.1, .int .i64 id.2] 35)).alloc (.cells #[.slice none 0 0, .slice none 0 0] 30)).heap[(w.heap.size + 1 + 1)]? = some (.cells #[.slice none 0 0, .slice none 0 0] 30 (0, 0))) := hx
  have HB : Hid (Below w.heap.size w (((w.alloc (.cells #[.slice A n c, .slice A' m d] 30)).alloc (.cells #[.int .i64 id.1, .int .i64 id.2] 35)).alloc (.cells #[.slice none 0 0, .slice none 0 0] 30))) := hbox
  have HSZ : Hid ((((w.alloc (.cells #[.slice A n c, .slice A' m d] 30)).alloc (.cells #[.int .i64 id.1, .int .i64 id.2] 35)).alloc (.cells #[.slice none 0 0, .slice none 0 0] 30)).heap.size = (w.heap.size + 1 + 1) + 1) := Lib.hid (by simp only [World.size_alloc])
  clear hv hv2 hg hx hbox
  unfold stA at HC ⊢
  go_enter Tryz.func42, Tryz.ntmps42
  go_wp2_with fail
  refine HC.out.mono ?_
  rintro e w1 ⟨v, rfl, q⟩
  obtain ⟨B, k, l, B', k', l', rfl⟩ := q.1.form
  have hx1 := (q.2.block _ (heap_lt HX.out)).trans HX.out
  have hz := heap_lt hx1
  have q2 := Lib.hid (want_alloc (want_put (N := N) (b := (w.heap.size + 1 + 1)) (by omega) HSZ.out HB.out q (.slice B k l) (.slice B' k' l')) (.cells #[.slice B k l, .slice B' k' l'] 30))
  obtain ⟨m2, m3⟩ := two_cells hx1
  obtain ⟨f2, f3⟩ := two_free hx1
  obtain ⟨p0, p1⟩ := put_cells (x' := .slice B k l) (y' := .slice B' k' l') hx1 (.cells #[.slice B k l, .slice B' k' l'] 30)
  clear q HC hx1 HX HB
  go_wp2_with fail
  exact bodyPost_ret (v := .agg #[.slice B k l, .slice B' k' l']) (by simp [results, Tryz.results42, go_sem, p0, p1]) rfl ⟨_, _, _, _, _, _, rfl, q2.out⟩

end Go.Proofs.YtlhdbccemgofjaaGreatDoor
