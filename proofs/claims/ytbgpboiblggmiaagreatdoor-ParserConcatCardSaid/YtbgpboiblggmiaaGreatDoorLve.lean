/-
  Operations of a region, one by one; rows of trees over what is made later.
-/
import Derived.Test.YtbgpboiblggmiaaGreatDoorRgn
set_option linter.unusedVariables false
set_option linter.unusedSimpArgs false
namespace Go.Proofs.YtbgpboiblggmiaaGreatDoor
open Go.RowKit
open Px (St T D Res)

theorem Row.under {S : Nat → Prop} {w w' : World} {l : List T} {kv : Value} (h : Row S w l kv) (hb : Below w.heap.size w w') : Row S w' l kv :=
  h.keep (fun _ h _ => h) (fun b _ _ hc => (hb.block b (lt_heap hc)).trans hc)
section
variable {P : Program} {md : Region.Mode} {ops : Array Oper} {Q : Exit → Act → World → Prop} {S : World → Prop} {fuel : Nat} {listed : Array Bool} {a : Act} {w : World}
/-- two operations may come up -/
theorem ready2 {i j : Nat} (hr : Region.ready md ops listed = [i, j]) (h1 : AllReadyH P md ops Q S fuel listed a w [i]) (h2 : AllReadyH P md ops Q S fuel listed a w [j]) : wpAnyH P md ops Q S (fuel + 1) listed a w :=
  wpAnyH_ready hr (by simp) (fun k hk => by
    rcases List.mem_cons.1 hk with rfl | hk
    · exact h1 _ (List.mem_singleton.2 rfl)
    · exact h2 _ hk)
theorem ready1 {i : Nat} (hr : Region.ready md ops listed = [i]) (h1 : AllReadyH P md ops Q S fuel listed a w [i]) : wpAnyH P md ops Q S (fuel + 1) listed a w := wpAnyH_ready hr (by simp) h1
theorem at_call {i : Nat} {dst : Option Tmp} {op : Op} {ty : TypeId} {pos : String} {after : Array Edge} {guard : Option (Nat × Bool)} {f : FuncId} {args : Array Value}
    (ho : ops[i]? = some ⟨dst, op, ty, pos, after, guard⟩) (hw : Region.wanted ⟨dst, op, ty, pos, after, guard⟩ (yielded ops a.tmps) = true) (he : (execOp a.eval ⟨dst, op, ty, pos, after, guard⟩).run P w = .ok (.enter f args) w)
    (h : Calls P f args w fun e w' => ∃ v, e = .returned v ∧ S w' ∧ (S w' → wpAnyH P md ops Q S fuel (listed.setIfInBounds i true) (a.put dst v) w')) : AllReadyH P md ops Q S fuel listed a w [i] := by
  refine AllReadyH.cons ho (fun K hK => ?_) AllReadyH.nil
  rw [if_pos hw]
  unfold Oper.wp
  rw [he]
  refine h.mono fun e w' hk => ?_
  obtain ⟨v, rfl, hS, hk⟩ := hk
  exact hK.out _ _ hS hk
theorem at_op {i : Nat} {dst : Option Tmp} {op : Op} {ty : TypeId} {pos : String} {after : Array Edge} {guard : Option (Nat × Bool)} {v : Value} {w1 : World}
    (ho : ops[i]? = some ⟨dst, op, ty, pos, after, guard⟩) (hw : Region.wanted ⟨dst, op, ty, pos, after, guard⟩ (yielded ops a.tmps) = true) (he : (execOp a.eval ⟨dst, op, ty, pos, after, guard⟩).run P w = .ok (.value v) w1)
    (hS : S w1) (h : S w1 → wpAnyH P md ops Q S fuel (listed.setIfInBounds i true) (a.put dst v) w1) : AllReadyH P md ops Q S fuel listed a w [i] := by
  refine AllReadyH.cons ho (fun K hK => ?_) AllReadyH.nil
  rw [if_pos hw]
  unfold Oper.wp
  rw [he]
  exact hK.out _ _ hS h
theorem at_skip {i : Nat} {op : Op} {ty : TypeId} {pos : String} {after : Array Edge} {guard : Option (Nat × Bool)} {w1 : World}
    (ho : ops[i]? = some ⟨none, op, ty, pos, after, guard⟩) (hw : Region.wanted ⟨none, op, ty, pos, after, guard⟩ (yielded ops a.tmps) = true) (he : (execOp a.eval ⟨none, op, ty, pos, after, guard⟩).run P w = .ok .skip w1)
    (hS : S w1) (h : S w1 → wpAnyH P md ops Q S fuel (listed.setIfInBounds i true) a w1) : AllReadyH P md ops Q S fuel listed a w [i] := by
  refine AllReadyH.cons ho (fun K hK => ?_) AllReadyH.nil
  rw [if_pos hw]
  unfold Oper.wp
  rw [he]
  exact hK.out _ _ hS h
end
theorem run_allocN {a : Act} {dst : Option Tmp} {ty : TypeId} {pos : String} {after : Array Edge} {guard : Option (Nat × Bool)} {w : World} :
    (execOp a.eval ⟨dst, .alloc 25, ty, pos, after, guard⟩).run Tryz.prog w = .ok (.value (.pointer (some ⟨w.heap.size, 0, none⟩))) (w.alloc (.cells #[.int .i64 0, .string ⟨#[]⟩, .string ⟨#[]⟩, .int .i64 0, .int .i64 0, .int .i64 0, .bool false, .slice none 0 0, .int .i64 0] 25)) := by
  go_simp
theorem run_storeN {a : Act} {b : Nat} {cs old : Array Value} {p x : Operand} {ty : TypeId} {pos : String} {after : Array Edge} {guard : Option (Nat × Bool)} {w : World}
    (hp : a.eval p = .pointer (some ⟨b, 0, none⟩)) (hx : a.eval x = .agg cs) (h9 : cs.size = 9) (ho : old.size = 9) (h1 : cs.all (·.oneCell') = true) (hS : Var 25 w b old) :
    (execOp a.eval ⟨none, .store 25 p x, ty, pos, after, guard⟩).run Tryz.prog w = .ok .skip (w.setRow b cs) := by
  have h2 := run_storeVar_row (P := Tryz.prog) w b 25 25 old cs hS (by rw [infoN, h9]) (by rw [ho, h9]) h1
  simp [execOp, hp, hx, Instr.storeAt, Instr.sureAddr, h2]
theorem run_storeT {a : Act} {b : Nat} {t : T} {ad : Option Addr} {n cap : Nat} {old : Array Value} {p x : Operand} {ty : TypeId} {pos : String} {after : Array Edge} {guard : Option (Nat × Bool)} {w : World}
    (hp : a.eval p = .pointer (some ⟨b, 0, none⟩)) (hx : a.eval x = nodeVal t (.slice ad n cap)) (ho : old.size = 9) (hS : Var 25 w b old) :
    (execOp a.eval ⟨none, .store 25 p x, ty, pos, after, guard⟩).run Tryz.prog w = .ok .skip (w.setRow b (nodeCells t (.slice ad n cap)).toArray) :=
  run_storeN hp hx rfl ho (by simp [nodeCells, Value.oneCell']) hS
end Go.Proofs.YtbgpboiblggmiaaGreatDoor
