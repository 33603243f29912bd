/-
  Where items begin in a tree that was read.
-/
import Derived.Test.YtbgpboiblggmiaaGreatDoorQRcb
import Derived.Test.YtbgpboiblggmiaaGreatDoorQSzb
set_option linter.unusedVariables false
set_option linter.unusedSimpArgs false
namespace Go.Proofs.YtbgpboiblggmiaaGreatDoor.Px
open Lx (Tok)
variable {E : Nat}

/-- rules for expressions: Φ of all, Ψ of references -/
structure ER (Φ Ψ : T → Prop) (NM PT : Str → Prop) (NB : Int → Prop) : Prop where
  num : ∀ n o, NB n → Φ (.mk 1 [] [] n 0 0 false [] o)
  ref : ∀ x o, PT x → Ψ (T.named 2 o x [])
  idx : ∀ x o e, PT x → Φ e → Ψ (T.named 2 o x [e])
  up : ∀ t, Ψ t → Φ t
  all : ∀ k x n e o, k = 7 ∨ k = 8 → NM x → NB n → Φ e → Φ (.mk k x [] n 0 0 false [e] o)
  cond : ∀ a b c o, Φ a → Φ b → Φ c → Φ (T.of 6 o [a, b, c])
  bin : ∀ x a b o, 0 < level x → Φ a → Φ b → Φ (T.named 5 o x [a, b])
  not : ∀ a o, Φ a → Φ (T.of 4 o [a])
  old : ∀ a o, Ψ a → Φ (T.of 3 o [a])
end Go.Proofs.YtbgpboiblggmiaaGreatDoor.Px

