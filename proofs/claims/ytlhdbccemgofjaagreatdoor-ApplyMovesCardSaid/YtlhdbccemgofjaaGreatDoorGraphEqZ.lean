/-
  Two entries, two inodes held against each other, as the walk meets it.
-/
import Derived.Test.YtlhdbccemgofjaaGreatDoorZ00
namespace Go.Proofs.YtlhdbccemgofjaaGreatDoor
open Go.RowKit StampMath GraphMath

theorem ent_ext {a b : Ent} (h1 : a.dir.1 = b.dir.1) (h2 : a.dir.2 = b.dir.2) (h3 : a.name.toList = b.name.toList) (h4 : a.ino.1 = b.ino.1) (h5 : a.ino.2 = b.ino.2) : a = b := by
  obtain ⟨⟨_, _⟩, _, ⟨_, _⟩⟩ := a
  obtain ⟨⟨_, _⟩, _, ⟨_, _⟩⟩ := b
  have e := bytes_same h3
  simp_all

theorem ino_ext {a b : Ino} (h1 : a.id.1 = b.id.1) (h2 : a.id.2 = b.id.2) (h3 : a.kind = b.kind) (h4 : a.links = b.links) (h5 : a.mode = b.mode) (h6 : a.data.toList = b.data.toList) : a = b := by
  obtain ⟨⟨_, _⟩, _, _, _, _⟩ := a
  obtain ⟨⟨_, _⟩, _, _, _, _⟩ := b
  have e := bytes_same h6
  simp_all

theorem run_eqEnt (a b : Ent) (W : World) : (Op.equalIn 10000 93 (.agg #[.int .i64 a.dir.1, .int .i64 a.dir.2, .string a.name, .int .i64 a.ino.1, .int .i64 a.ino.2]) (.agg #[.int .i64 b.dir.1, .int .i64 b.dir.2, .string b.name, .int .i64 b.ino.1, .int .i64 b.ino.2])).run Tryz.prog W = .ok (decide (a = b)) W := by
  go_simp
  by_cases e : a = b
  · subst e
    simp
  · rw [decide_eq_false e]
    by_cases h1 : a.dir.1 = b.dir.1
    · rw [if_pos h1]
      by_cases h2 : a.dir.2 = b.dir.2
      · rw [if_pos h2]
        by_cases h3 : a.name.toList = b.name.toList
        · rw [if_pos h3]
          by_cases h4 : a.ino.1 = b.ino.1
          · rw [if_pos h4]
            by_cases h5 : a.ino.2 = b.ino.2
            · exact absurd (ent_ext h1 h2 h3 h4 h5) e
            · simp [h5]
          · rw [if_neg h4]
        · rw [if_neg h3]
      · rw [if_neg h2]
    · rw [if_neg h1]

theorem run_eqIno (a b : Ino) (W : World) : (Op.equalIn 10000 54 (.agg #[.int .i64 a.id.1, .int .i64 a.id.2, .int .i64 a.kind, .int .i64 a.links, .int .i64 a.mode, .string a.data]) (.agg #[.int .i64 b.id.1, .int .i64 b.id.2, .int .i64 b.kind, .int .i64 b.links, .int .i64 b.mode, .string b.data])).run Tryz.prog W = .ok (decide (a = b)) W := by
  go_simp
  by_cases e : a = b
  · subst e
    simp
  · rw [decide_eq_false e]
    by_cases h1 : a.id.1 = b.id.1
    · rw [if_pos h1]
      by_cases h2 : a.id.2 = b.id.2
      · rw [if_pos h2]
        by_cases h3 : a.kind = b.kind
        · rw [if_pos h3]
          by_cases h4 : a.links = b.links
          · rw [if_pos h4]
            by_cases h5 : a.mode = b.mode
            · rw [if_pos h5]
              by_cases h6 : a.data.toList = b.data.toList
              · exact absurd (ino_ext h1 h2 h3 h4 h5 h6) e
              · simp [h6]
            · rw [if_neg h5]
          · rw [if_neg h4]
        · rw [if_neg h3]
      · rw [if_neg h2]
    · rw [if_neg h1]

end Go.Proofs.YtlhdbccemgofjaaGreatDoor
