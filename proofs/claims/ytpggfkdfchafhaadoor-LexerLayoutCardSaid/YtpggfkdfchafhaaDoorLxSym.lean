/-
  The program's table of symbols and the reference's find the same symbol.
-/
import Derived.Test.YtpggfkdfchafhaaDoorLxCoded
namespace Go.Proofs.YtpggfkdfchafhaaDoor

theorem find_cons_eq (t : List UInt8) (ts : List (List UInt8)) (l : List UInt8) : (t :: ts).find? (fun t => l.take t.length == t) = if l.take t.length = t then some t else ts.find? (fun t => l.take t.length == t) := by
  rw [List.find?_cons]
  by_cases h : l.take t.length = t
  · rw [if_pos h, beq_iff_eq.2 h]
  · rw [if_neg h, beq_eq_false_iff_ne.2 h]

theorem sym_same (l : List UInt8) : tabFrom l 0 = Lx.sym l := by
  unfold tabFrom Lx.sym
  rw [List.drop_zero]
  unfold symTab Lx.refSyms
  simp only [find_cons_eq]
  rcases l with _ | ⟨c, _ | ⟨d, _ | ⟨e, r⟩⟩⟩
  · simp
  · by_cases h61 : c = 61
    · subst h61; simp
    by_cases h58 : c = 58
    · subst h58; simp
    by_cases h33 : c = 33
    · subst h33; simp
    by_cases h60 : c = 60
    · subst h60; simp
    by_cases h38 : c = 38
    · subst h38; simp
    by_cases h124 : c = 124
    · subst h124; simp
    simp [h61, h58, h33, h60, h38, h124]
  · by_cases h61 : c = 61
    · subst h61; simp
    by_cases h58 : c = 58
    · subst h58; simp
    by_cases h33 : c = 33
    · subst h33; simp
    by_cases h60 : c = 60
    · subst h60; simp
    by_cases h38 : c = 38
    · subst h38; simp
    by_cases h124 : c = 124
    · subst h124; simp
    simp [h61, h58, h33, h60, h38, h124]
  · by_cases h61 : c = 61
    · subst h61; simp
    by_cases h58 : c = 58
    · subst h58; simp
    by_cases h33 : c = 33
    · subst h33; simp
    by_cases h60 : c = 60
    · subst h60; simp
    by_cases h38 : c = 38
    · subst h38; simp
    by_cases h124 : c = 124
    · subst h124; simp
    simp [h61, h58, h33, h60, h38, h124]

end Go.Proofs.YtpggfkdfchafhaaDoor
