/-
  An argument that is a slice of bytes: what it holds.
-/
import Derived.Test.YtbgpboiblggmiaaGreatDoorQRwb
import Derived.ProofKit
set_option linter.unusedVariables false
set_option linter.unusedSimpArgs false
namespace Go.Proofs.YtbgpboiblggmiaaGreatDoor
open Go.ChangeShapes Go.WideShapes Go.ChangeAt Go.RowKit Go.ChangeMaps

theorem laidOutP : laidOutB Tryz.prog = true := by kernel_rfl
end Go.Proofs.YtbgpboiblggmiaaGreatDoor

