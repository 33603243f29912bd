/-
  How many tokens there can be.
-/
import Derived.Test.YtpggfkdfchafhaaDoorLxSpecb
namespace Go.Proofs.YtpggfkdfchafhaaDoor.Lx

theorem go_len (f : Nat) : ∀ (l : List UInt8) (a c : Nat), c ≤ 1500 → (go f l a c).1.length + c ≤ 1500 := by
  induction f with
  | zero => intro l a c h; simp [go]; omega
  | succ f ih =>
    intro l a c h
    cases l with
    | nil => simp [go]; omega
    | cons x r =>
      unfold go
      split
      · simp; omega
      · rename_i hc
        cases tok (x :: r) with
        | none => simp; omega
        | some kn =>
          have := ih ((List.drop kn.2 (x :: r)).drop (skip false (List.drop kn.2 (x :: r)))) (a + kn.2 + skip false (List.drop kn.2 (x :: r))) (c + 1) (by omega)
          simp only [List.length_cons]
          omega
theorem lex_len (l : List UInt8) : (lex l).1.length ≤ 1500 := by
  unfold lex
  split
  · simp
  · unfold fin
    split
    · have := go_len (l.length + 1) (l.drop (skip false l)) (skip false l) 0 (by omega)
      simpa using this
    · simp
theorem lex_len_of {l : List UInt8} {ts : List Tok} {k p : Nat} (h : lex l = (ts, k, p)) : ts.length ≤ 1500 := by
  have := lex_len l
  rw [h] at this
  exact this

end Go.Proofs.YtpggfkdfchafhaaDoor.Lx
