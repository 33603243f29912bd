/-
  Parse on a source without diagnostics and on a beginning of it.
-/
import Derived.Test.YtdiogcedlppioaaGreatDoorQSzb
set_option linter.unusedVariables false
set_option linter.unusedSimpArgs false
namespace Go.Proofs.YtdiogcedlppioaaGreatDoor.Px
open Lx (Tok)

/-- a source without diagnostics -/
theorem parse_clean {l : List UInt8} {ts : List Tok} {q : Nat} (h : Lx.lex l = (ts, 0, q)) (hd : (parse l).2 = []) :
    (units l.length ts).2.diags = [] ∧ fits (source (units l.length ts).1) = true ∧ parse l = (source (units l.length ts).1, []) := by
  rw [parse_units h] at hd
  by_cases h0 : (units l.length ts).2.diags = []
  · by_cases h1 : fits (source (units l.length ts).1) = true
    · refine ⟨h0, h1, ?_⟩
      rw [parse_units h, if_neg (fun hh => by rw [h1] at hh; cases hh.2), h0]
    · rw [if_pos ⟨h0, by simpa using h1⟩] at hd
      cases hd
  · rw [if_neg (fun hh => h0 hh.1)] at hd
    exact absurd hd h0
end Go.Proofs.YtdiogcedlppioaaGreatDoor.Px

