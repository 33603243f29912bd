/-
  A region that draws its order, walked by hand: what is taken first, and calls that must come one after the other.
-/
import Derived.Test.YtbgpboiblggmiaaGreatDoorQBaseG
import Derived.Deep.RegionHeld3
set_option linter.unusedVariables false
set_option linter.unusedSimpArgs false
namespace Go.Proofs.YtbgpboiblggmiaaGreatDoor
open Go.RowKit
open Px (St T D Res)

section
variable {P : Program} {md : Region.Mode} {ops : Array Oper} {Q : Exit → Act → World → Prop} {S : World → Prop} {fuel : Nat} {listed : Array Bool} {a : Act} {w : World}

/-- the region waits for one call alone -/
theorem call_in {i : Nat} {dst : Option Tmp} {op : Op} {ty : TypeId} {pos : String} {after : Array Edge} {guard : Option (Nat × Bool)} {f : FuncId} {args : Array Value}
    (hr : Region.ready md ops listed = [i]) (ho : ops[i]? = some ⟨dst, op, ty, pos, after, guard⟩) (hw : Region.wanted ⟨dst, op, ty, pos, after, guard⟩ (yielded ops a.tmps) = true) (he : (execOp a.eval ⟨dst, op, ty, pos, after, guard⟩).run P w = .ok (.enter f args) w)
    (h : Calls P f args w fun e w' => ∃ v, e = .returned v ∧ S w' ∧ (S w' → wpAnyH P md ops Q S fuel (listed.setIfInBounds i true) (a.put dst v) w')) : wpAnyH P md ops Q S (fuel + 1) listed a w := by
  refine wpAnyH_ready (rs := [i]) hr (by simp) (AllReadyH.cons ho (fun K hK => ?_) AllReadyH.nil)
  rw [if_pos hw]
  unfold Oper.wp
  rw [he]
  refine h.mono fun e w' hk => ?_
  obtain ⟨v, rfl, hS, hk⟩ := hk
  exact hK.out _ _ hS hk
/-- a value is taken first -/
theorem take_in {i : Nat} {dst : Option Tmp} {op : Op} {ty : TypeId} {pos : String} {after : Array Edge} {guard : Option (Nat × Bool)} {v : Value} (hi : ops[i]? = some ⟨dst, op, ty, pos, after, guard⟩)
    (hs : Region.noSelect ops = true) (hf : Region.free md ops listed i = true) (hr : (Region.ready md ops listed).contains i = true)
    (hQ : ∀ c a w, Q (.panic c) (a.put dst v) w → Q (.panic c) a w) (hw : Region.wanted ⟨dst, op, ty, pos, after, guard⟩ (yielded ops a.tmps) = true) (hy : ∀ w, S w → (execOp a.eval ⟨dst, op, ty, pos, after, guard⟩).run P w = .ok (.value v) w) (hS : S w)
    (h : wpAnyH P md ops Q S fuel (listed.setIfInBounds i true) (a.put dst v) w) : wpAnyH P md ops Q S (fuel + 1) listed a w :=
  wpAnyH_take hi hs hf hr hQ (Or.inl ⟨hw, hy⟩) hS h
end
/-- a tree's variable is loaded -/
theorem run_loadN {a : Act} {b : Nat} {cs : Array Value} {dst : Option Tmp} {p : Operand} {ty : TypeId} {pos : String} {after : Array Edge} {guard : Option (Nat × Bool)} {w : World}
    (hp : a.eval p = .pointer (some ⟨b, 0, none⟩)) (h9 : cs.size = 9) (hS : Var 25 w b cs) : (execOp a.eval ⟨dst, .load 25 p, ty, pos, after, guard⟩).run Tryz.prog w = .ok (.value (.agg cs)) w := by
  have h1 := run_loadVar_row (P := Tryz.prog) w b 25 25 cs (0, 0) _ hS Tryz.underlying25 rfl (by rw [infoN, h9])
  simp [execOp, hp, Instr.loadAt, Instr.sureAddr, h1]
end Go.Proofs.YtbgpboiblggmiaaGreatDoor

