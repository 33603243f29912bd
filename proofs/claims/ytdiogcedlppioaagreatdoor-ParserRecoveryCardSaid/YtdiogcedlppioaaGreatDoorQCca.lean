/-
  Parsing two sources with a line feed between.
-/
import Derived.Test.YtdiogcedlppioaaGreatDoorQBza
set_option linter.unusedVariables false
set_option linter.unusedSimpArgs false
namespace Go.Proofs.YtdiogcedlppioaaGreatDoor.Px
open Lx (Tok)

end Go.Proofs.YtdiogcedlppioaaGreatDoor.Px

