/-
  ParserConcat: moved diagnostics, one by one.
-/
import Derived.Test.YtbgpboiblggmiaaGreatDoorCdb
import Derived.Test.YtbgpboiblggmiaaGreatDoorCda
set_option linter.unusedVariables false
set_option linter.unusedSimpArgs false
namespace Go.Proofs.YtbgpboiblggmiaaGreatDoor
open Go.RowKit
open Px (St T D Res)

/-- offsets of the diagnostics of a parse -/
theorem parse_offs {l : List UInt8} {ts : List Lx.Tok} {p : Nat} (h : Lx.lex l = (ts, 0, p)) {Y : T} {e : List D} (hY : Px.parse l = (Y, e)) : (∀ d ∈ e, 0 ≤ d.off ∧ d.off ≤ l.length) ∧ e.length ≤ 20 := by
  obtain ⟨a1, a2⟩ := Lx.lex_off h
  have hg := Px.units_good (E := l.length) a1 a2
  rw [Px.parse_units h] at hY
  split at hY
  · cases hY
    refine ⟨fun d hd => ?_, by simp⟩
    rw [List.mem_singleton.1 hd]
    simp only
    omega
  · cases hY
    refine ⟨fun d hd => ?_, hg.num⟩
    have h1 := hg.le d hd
    have h2 := Px.off_le hg
    omega
theorem run_append_diag (w : World) (ty : TypeId) (base : Nat) (v : Value) (n : Nat) (xs : List Value) (hown : w.ownsRow base 33 2 v n xs) (x y : Int) (g : Nat) (hg : Var 33 w g #[.int .i64 x, .int .i64 y]) (h63 : n ≤ 900000) (hbase : base ≤ w.heap.size) :
    ∃ v' w', (Builtin.append_ #[26, 26] ty #[v, .slice (some ⟨g, 0, none⟩) 1 1]).run Tryz.prog w = .ok v' w' ∧ w'.ownsRow base 33 2 v' (n + 1) (xs ++ [.int .i64 x, .int .i64 y]) ∧ w.grownBy w' v.ownBlock ∧ w.heap.size ≤ w'.heap.size := by
  obtain ⟨i0, hi, hz0, hz1, hz2⟩ := info_parts infoD
  obtain ⟨v', w', hr, h2, h3, _, h5⟩ := run_append_own_at (P := Tryz.prog) w base 26 ty 33 i0 _ 2 16 Tryz.underlying26 hi hz0 hz1 hz2 (by rfl) (by omega) v n xs hown ⟨g, 0, none⟩ 1 1 [.int .i64 x, .int .i64 y] rfl (World.news_of_block (cs := #[.int .i64 x, .int .i64 y]) (t := 33) (fr := (0, 0)) hg) (by simp [Value.oneCell']) (by unfold maxLen; omega) (by omega) hbase
  exact ⟨v', w', hr, h2, h3, h3.size⟩
theorem run_append_opD {a : Act} {dst : Option Tmp} {s x : Operand} {ty : TypeId} {pos : String} {after : Array Edge} {guard : Option (Nat × Bool)} {w w' : World} {v v' y : Value}
    (hs : a.eval s = v) (hx : a.eval x = y) (hr : (Builtin.append_ #[26, 26] ty #[v, y]).run Tryz.prog w = .ok v' w') :
    (execOp a.eval ⟨dst, .call { callee := .builtin .append, args := #[s, x], argTypes := #[26, 26] }, ty, pos, after, guard⟩).run Tryz.prog w = .ok (.value v') w' := by
  simp [execOp, resolve, invoke, builtin, hs, hx, hr, Result.andThen]
/-- one moved diagnostic more -/
theorem moved_snoc {e : List D} {n : Nat} {d : D} (b : Int) (h : e[n]? = some d) : diagCells ((e.take (n + 1)).map (Px.shD b)) = diagCells ((e.take n).map (Px.shD b)) ++ [.int .i64 d.err, .int .i64 (d.off + b)] := by
  rw [take_snoc _ _ _ h, List.map_append, List.map_cons, List.map_nil, diagCells_snoc]
  rfl
end Go.Proofs.YtbgpboiblggmiaaGreatDoor
