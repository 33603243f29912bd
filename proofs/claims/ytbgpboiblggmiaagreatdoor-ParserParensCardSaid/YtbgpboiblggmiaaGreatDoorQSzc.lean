/-
  Parse on a source without diagnostics and on a beginning of it.
-/
import Derived.Test.YtbgpboiblggmiaaGreatDoorQSzb
set_option linter.unusedVariables false
set_option linter.unusedSimpArgs false
namespace Go.Proofs.YtbgpboiblggmiaaGreatDoor.Px
open Lx (Tok)

end Go.Proofs.YtbgpboiblggmiaaGreatDoor.Px

