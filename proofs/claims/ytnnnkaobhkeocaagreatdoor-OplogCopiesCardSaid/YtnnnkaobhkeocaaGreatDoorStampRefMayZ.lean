/-
 The walk of the document's own May (stamps).
-/
import Derived.Test.YtnnnkaobhkeocaaGreatDoorZ00
import Derived.Test.YtnnnkaobhkeocaaGreatDoorRows
namespace Go.Proofs.YtnnnkaobhkeocaaGreatDoor
open Go.RowKit StampMath
set_option maxHeartbeats 400000 in
theorem refMay(t r:Int)(w:World):
  Calls Tryz.prog 41 #[.agg #[.int .i64 t,.int .i64 r]] w fun e w'=>e=.returned (.bool (mayB t r))/\Below w.heap.size w w':=by
 have hcase:((t==0)=true/\mayB t r=(r==0))\/((t==0)=false/\decide (1<=t)=false/\mayB t r=false)\/((t==0)=false/\1<=t/\decide (t<=1073741824)=false/\mayB t r=false)\/
   ((t==0)=false/\1<=t/\t<=1073741824/\decide (0<=r)=false/\mayB t r=false)\/((t==0)=false/\1<=t/\t<=1073741824/\0<=r/\mayB t r=decide (r<=7)):=by
  unfold mayB;by_cases h0:t=0
  ·exact Or.inl ⟨by simp[h0],by rw[if_pos h0]⟩
  ·rw[if_neg h0];by_cases h1:1<=t
   ·by_cases h2:t<=1073741824
    ·by_cases h3:0<=r
     ·exact Or.inr (Or.inr (Or.inr (Or.inr ⟨by simp[h0],h1,h2,h3,by simp[h1,h2,h3]⟩)))
     ·exact Or.inr (Or.inr (Or.inr (Or.inl ⟨by simp[h0],h1,h2,by simp;omega,by simp[h3]⟩)))
    ·exact Or.inr (Or.inr (Or.inl ⟨by simp[h0],h1,by simp;omega,by simp[h2]⟩))
   ·exact Or.inr (Or.inl ⟨by simp[h0],by simp;omega,by simp[h1]⟩)
 rcases hcase with ⟨h0,h⟩|⟨h0,h1,h⟩|⟨h0,h1,h2,h⟩|⟨h0,h1,h2,h3,h⟩|⟨h0,h1,h2,h3,h⟩
 all_goals
  have H:=Lib.hid h;clear h
  go_enter Tryz.func41,Tryz.ntmps41
  go_wp2_with fail
  go_ret
  exact⟨by rw[H.out];rfl,(Below.refl _ _).alloc (Nat.le_refl _) _⟩
end Go.Proofs.YtnnnkaobhkeocaaGreatDoor
