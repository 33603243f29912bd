/-
  Trees of statements, declarations and units: how many nodes.
-/
import Derived.Test.YtbgpboiblggmiaaGreatDoorQSza
set_option linter.unusedVariables false
set_option linter.unusedSimpArgs false
namespace Go.Proofs.YtbgpboiblggmiaaGreatDoor.Px
open Lx (Tok)
variable {E : Nat}

end Go.Proofs.YtbgpboiblggmiaaGreatDoor.Px

