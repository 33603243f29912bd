/-
  The same for lists, statements, declarations and units.
-/
import Derived.Test.YtbgpboiblggmiaaGreatDoorQRca
set_option linter.unusedVariables false
set_option linter.unusedSimpArgs false
namespace Go.Proofs.YtbgpboiblggmiaaGreatDoor.Px
open Lx (Tok)
variable {p : Par}

end Go.Proofs.YtbgpboiblggmiaaGreatDoor.Px

