/-
 The walk of the document's own Less.
-/
import Derived.Test.YtnnnkaobhkeocaaGreatDoorStampRefMayZ
import Derived.Test.YtnnnkaobhkeocaaGreatDoorRows
namespace Go.Proofs.YtnnnkaobhkeocaaGreatDoor
open Go.RowKit StampMath
set_option maxHeartbeats 400000 in
theorem refLess(t r t' r':Int)(w:World):
  Calls Tryz.prog 42 #[.agg #[.int .i64 t,.int .i64 r],.agg #[.int .i64 t',.int .i64 r']] w fun e w'=>e=.returned (.bool (lessB t r t' r'))/\Below w.heap.size w w':=by
 have hcase:(t<t'/\lessB t r t' r'=true)\/(¬t<t'/\(t==t')=true/\lessB t r t' r'=decide (r<r'))\/(¬t<t'/\(t==t')=false/\lessB t r t' r'=false):=by
  by_cases h1:t<t'
  ·exact Or.inl ⟨h1,by simp[lessB,h1]⟩
  ·by_cases h2:t=t'
   ·exact Or.inr (Or.inl ⟨h1,by simp[h2],by simp[lessB,h2]⟩)
   ·exact Or.inr (Or.inr ⟨h1,by simp[h2],by simp[lessB,h1,h2]⟩)
 rcases hcase with ⟨h1,h⟩|⟨h1,h2,h⟩|⟨h1,h2,h⟩
 all_goals
  have H:=Lib.hid h;clear h
  go_enter Tryz.func42,Tryz.ntmps42
  go_wp2_with fail
  go_ret
  exact⟨by rw[H.out];rfl,((Below.refl _ _).alloc (Nat.le_refl _) _).alloc (by simp) _⟩
end Go.Proofs.YtnnnkaobhkeocaaGreatDoor
