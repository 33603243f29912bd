/-
  ParserLevels: the walk over the law, for arguments as they come.
-/
import Derived.Test.YtdiogcedlppioaaGreatDoorLvu
set_option linter.unusedVariables false
set_option linter.unusedSimpArgs false
namespace Go.Proofs.YtdiogcedlppioaaGreatDoor
open Go.RowKit
theorem levelsp_walk (x y : Int) (neg : Bool) (w : World) (hS : SymsAt w) (hM : MaxAt w) (hx : (Lit.int .u8 x).wf = true) (hy : (Lit.int .u8 y).wf = true) :
    Calls Tryz.prog 5 #[.int .u8 x, .int .u8 y, .bool neg] w fun e w' => e = .returned (.bool true) ∧ Below w.heap.size w w' := by
  have h1 : 0 ≤ x ∧ x ≤ 255 := by simpa [Lit.wf, IntKind.min, IntKind.max, IntKind.signed, IntKind.bits] using hx
  have h2 : 0 ≤ y ∧ y ≤ 255 := by simpa [Lit.wf, IntKind.min, IntKind.max, IntKind.signed, IntKind.bits] using hy
  obtain ⟨f, rfl⟩ := Int.eq_ofNat_of_zero_le h1.1
  obtain ⟨s, rfl⟩ := Int.eq_ofNat_of_zero_le h2.1
  exact levels_walk f s neg w hS hM (by omega) (by omega)
end Go.Proofs.YtdiogcedlppioaaGreatDoor
