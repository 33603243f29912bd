/-
  What a parse leaves is well formed: names, paths, numbers, the shapes of nodes.
-/
import Derived.Test.YtbgpboiblggmiaaGreatDoorQLwu
set_option linter.unusedVariables false
set_option linter.unusedSimpArgs false
namespace Go.Proofs.YtbgpboiblggmiaaGreatDoor
open Go.RowKit
open Px (St T D Res left)

/-- a token as the lexer makes it -/
structure TokV (t : Lx.Tok) : Prop where
  len : t.text.length ≤ 4000
  name : t.kind = 1 → 1 ≤ t.text.length ∧ t.text.length ≤ 16 ∧ (∀ c r, t.text = c :: r → Lx.letterU c = true) ∧ ∀ c ∈ t.text, Lx.wordU c = true
  num : t.kind = 2 → t.text.length ≤ 9 ∧ ∀ c ∈ t.text, Lx.digitU c = true
/-- a state whose tokens the lexer made -/
def TV (s : St) : Prop := (∀ t ∈ s.toks, TokV t) ∧ s.toks.length ≤ 1500
theorem TV.suf {s s1 : St} (h : TV s) (hs : s1.toks <:+ s.toks) : TV s1 := ⟨fun t ht => h.1 t (hs.subset ht), Nat.le_trans hs.length_le h.2⟩
variable {E : Nat}
def NumOk (n : Int) : Prop := 0 ≤ n ∧ n ≤ 999999999
end Go.Proofs.YtbgpboiblggmiaaGreatDoor

