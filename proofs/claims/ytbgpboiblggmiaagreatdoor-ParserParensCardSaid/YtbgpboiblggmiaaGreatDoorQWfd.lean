/-
  Declarations, units, whole sources: what a parse hands back is valid; diagnostics lie in the source, in order.
-/
import Derived.Test.YtbgpboiblggmiaaGreatDoorQWfc
import Derived.Test.YtbgpboiblggmiaaGreatDoorQSzc
set_option linter.unusedVariables false
set_option linter.unusedSimpArgs false
namespace Go.Proofs.YtbgpboiblggmiaaGreatDoor.Px
open Lx (Tok)
variable {E : Nat}
end Go.Proofs.YtbgpboiblggmiaaGreatDoor.Px
namespace Go.Proofs.YtbgpboiblggmiaaGreatDoor
open Go.RowKit
open Px (St T D Res left)
variable {E : Nat}

end Go.Proofs.YtbgpboiblggmiaaGreatDoor

