/-
  A variable that holds a tree, and the beginning of its row.
-/
import Derived.Test.YtlncbemdbpbccaaGreatDoorPrc
set_option linter.unusedVariables false
set_option linter.unusedSimpArgs false
namespace Go.Proofs.YtlncbemdbpbccaaGreatDoor
open Go.RowKit
open Px (St T D Res left Takes)

/-- a variable with a tree whose row has room -/
def TrC (w : World) (b : Nat) (t : T) : Prop :=
  ∃ a cap, Var 25 w b #[.int .i64 t.kind, .string ⟨t.name.toArray⟩, .string ⟨t.other.toArray⟩, .int .i64 t.n, .int .i64 t.len, .int .i64 t.init, .bool t.ghost, .slice a t.kids.length cap, .int .i64 t.off] ∧ RRow w.heap.size w t.kids (.slice a t.kids.length cap) ∧ t.kids.length ≤ cap
theorem TrC.below {w w' : World} {b : Nat} {t : T} (h : TrC w b t) (hb : Below w.heap.size w w') : TrC w' b t := by
  obtain ⟨a, cap, z, r, k⟩ := h
  exact ⟨a, cap, (hb.block b z.lt).trans z, r.next hb, k⟩
theorem TrC.new {w : World} {t : T} {a : Option Addr} {cap b : Nat} (h : RRow w.heap.size w t.kids (.slice a t.kids.length cap)) (hk : t.kids.length ≤ cap) (hb : b = w.heap.size) : TrC (w.alloc (.cells #[.int .i64 t.kind, .string ⟨t.name.toArray⟩, .string ⟨t.other.toArray⟩, .int .i64 t.n, .int .i64 t.len, .int .i64 t.init, .bool t.ghost, .slice a t.kids.length cap, .int .i64 t.off] 25)) b t := by
  subst hb
  exact ⟨a, cap, Var.new _ _ _, h.next ((Below.refl _ _).alloc (Nat.le_refl _) _), hk⟩
set_option maxRecDepth 100000 in
/-- a beginning of a row, by its slice -/
theorem slice_row (a : Option Addr) (n c j : Nat) (y : Int) (hy : y = j) (h : j ≤ c) (W : World) : (Instr.slice 23 (.slice a n c) none (some (.int .i64 y)) none).run Tryz.prog W = .ok (.slice a j c) W := by
  subst hy
  rw [run_slice_h W _ a n c Tryz.underlying23 .i64 (j : Int) (by omega) (by omega)]
  cases a with
  | none => simp [go_sem]
  | some p => cases p; simp [go_sem]
end Go.Proofs.YtlncbemdbpbccaaGreatDoor
