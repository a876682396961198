/-
  Two operations held against each other, as the walk meets it.
-/
import Derived.Test.YteknegfocnopgaaDoorOpMath
import Derived.Test.YteknegfocnopgaaDoorRows
import Derived.ProofKit
import Derived.Laws.StructEq
namespace Go.Proofs.YteknegfocnopgaaDoor
open Go.RowKit OpMath

theorem bytes_ext {a b : ByteArray} (h : a.toList = b.toList) : a = b := by
  rw [ByteArray.toList_eq, ByteArray.toList_eq] at h
  apply ByteArray.ext
  exact Array.toList_inj.1 h

theorem opn_ext {a b : Opn} (h1 : a.st = b.st) (h2 : a.sr = b.sr) (h3 : a.k = b.k) (h4 : a.pt = b.pt) (h5 : a.pr = b.pr) (h6 : a.it = b.it) (h7 : a.ir = b.ir) (h8 : a.tt = b.tt) (h9 : a.tr = b.tr)
    (h10 : a.name.toList = b.name.toList) (h11 : a.new.toList = b.new.toList) (h12 : a.off = b.off) (h13 : a.data.toList = b.data.toList) : a = b := by
  have e1 := bytes_ext h10
  have e2 := bytes_ext h11
  have e3 := bytes_ext h13
  cases a
  cases b
  simp_all

theorem run_eqO (a b : Opn) (W : World) : (Op.equalIn 10000 25 (.agg (opA a)) (.agg (opA b))).run Tryd.prog W = .ok (decide (a = b)) W := by
  unfold opA
  go_simp
  by_cases e : a = b
  · subst e
    simp
  · rw [decide_eq_false e]
    by_cases h1 : a.st = b.st
    · rw [if_pos h1]
      by_cases h2 : a.sr = b.sr
      · rw [if_pos h2]
        by_cases h3 : a.k = b.k
        · rw [if_pos h3]
          by_cases h4 : a.pt = b.pt
          · rw [if_pos h4]
            by_cases h5 : a.pr = b.pr
            · rw [if_pos h5]
              by_cases h6 : a.it = b.it
              · rw [if_pos h6]
                by_cases h7 : a.ir = b.ir
                · rw [if_pos h7]
                  by_cases h8 : a.tt = b.tt
                  · rw [if_pos h8]
                    by_cases h9 : a.tr = b.tr
                    · rw [if_pos h9]
                      by_cases h10 : a.name.toList = b.name.toList
                      · rw [if_pos h10]
                        by_cases h11 : a.new.toList = b.new.toList
                        · rw [if_pos h11]
                          by_cases h12 : a.off = b.off
                          · rw [if_pos h12]
                            rw [if_neg fun h13 => e (opn_ext h1 h2 h3 h4 h5 h6 h7 h8 h9 h10 h11 h12 h13)]
                          · rw [if_neg h12]
                        · rw [if_neg h11]
                      · rw [if_neg h10]
                    · rw [if_neg h9]
                  · rw [if_neg h8]
                · rw [if_neg h7]
              · rw [if_neg h6]
            · rw [if_neg h5]
          · rw [if_neg h4]
        · rw [if_neg h3]
      · rw [if_neg h2]
    · rw [if_neg h1]

end Go.Proofs.YteknegfocnopgaaDoor
