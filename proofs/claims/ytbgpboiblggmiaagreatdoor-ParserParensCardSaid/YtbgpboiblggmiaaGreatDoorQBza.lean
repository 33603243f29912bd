/-
  Outside of an atomic's braces no brace is open: what a reader that ends well leaves.
-/
import Derived.Test.YtbgpboiblggmiaaGreatDoorQLya
set_option linter.unusedVariables false
set_option linter.unusedSimpArgs false
namespace Go.Proofs.YtbgpboiblggmiaaGreatDoor.Px
open Lx (Tok)
variable {E : Nat}
end Go.Proofs.YtbgpboiblggmiaaGreatDoor.Px

