/-
  The program's table of symbols: what its cells hold, and how it is loaded and indexed.
-/
import Derived.Test.YtpggfkdfchafhaaDoorLxRefg
import Derived.KernelRfl
import Derived.Lib.LaidTab
namespace Go.Proofs.YtpggfkdfchafhaaDoor
open Go.RowKit

/-- the program's symbols, in the order of its table -/
def symTab : List (List UInt8) := [[61, 61, 62], [61, 61], [61], [58, 61], [58], [33, 61], [33], [60, 61], [60], [38, 38], [38], [124, 124], [124], [123], [125], [40], [41], [91], [93], [59], [44], [46], [63], [94], [43], [45], [42]]
/-- the table as a value -/
def symArr : Array Value := (symTab.map fun t => Value.string ⟨t.toArray⟩).toArray
/-- the table's cells hold its texts -/
def SymsAt (w : World) : Prop := TextsAt w 0 symTab

theorem symsAt_below {w w' : World} {B : Nat} (h : SymsAt w) (hb : Below B w w') (hB : 0 < B) : SymsAt w' := fun i t ht => (hb.cell (p := ⟨0, i, none⟩) hB).trans (h i t ht)

theorem symIdx (i : Nat) (t : List UInt8) (h : symTab[i]? = some t) (W : World) : (Instr.index 51 (.agg symArr) (.int .i64 i)).run Tryd.prog W = .ok (.string ⟨t.toArray⟩) W := by
  obtain ⟨hi, ht⟩ := List.getElem?_eq_some_iff.1 h
  have hi' : i < 27 := hi
  subst ht
  match i with
  | 0 => exact (show ∀ W : World, (Instr.index 51 (.agg symArr) (.int .i64 0)).run Tryd.prog W = .ok (.string ⟨#[61, 61, 62]⟩) W from fun _ => by kernel_rfl) W
  | 1 => exact (show ∀ W : World, (Instr.index 51 (.agg symArr) (.int .i64 1)).run Tryd.prog W = .ok (.string ⟨#[61, 61]⟩) W from fun _ => by kernel_rfl) W
  | 2 => exact (show ∀ W : World, (Instr.index 51 (.agg symArr) (.int .i64 2)).run Tryd.prog W = .ok (.string ⟨#[61]⟩) W from fun _ => by kernel_rfl) W
  | 3 => exact (show ∀ W : World, (Instr.index 51 (.agg symArr) (.int .i64 3)).run Tryd.prog W = .ok (.string ⟨#[58, 61]⟩) W from fun _ => by kernel_rfl) W
  | 4 => exact (show ∀ W : World, (Instr.index 51 (.agg symArr) (.int .i64 4)).run Tryd.prog W = .ok (.string ⟨#[58]⟩) W from fun _ => by kernel_rfl) W
  | 5 => exact (show ∀ W : World, (Instr.index 51 (.agg symArr) (.int .i64 5)).run Tryd.prog W = .ok (.string ⟨#[33, 61]⟩) W from fun _ => by kernel_rfl) W
  | 6 => exact (show ∀ W : World, (Instr.index 51 (.agg symArr) (.int .i64 6)).run Tryd.prog W = .ok (.string ⟨#[33]⟩) W from fun _ => by kernel_rfl) W
  | 7 => exact (show ∀ W : World, (Instr.index 51 (.agg symArr) (.int .i64 7)).run Tryd.prog W = .ok (.string ⟨#[60, 61]⟩) W from fun _ => by kernel_rfl) W
  | 8 => exact (show ∀ W : World, (Instr.index 51 (.agg symArr) (.int .i64 8)).run Tryd.prog W = .ok (.string ⟨#[60]⟩) W from fun _ => by kernel_rfl) W
  | 9 => exact (show ∀ W : World, (Instr.index 51 (.agg symArr) (.int .i64 9)).run Tryd.prog W = .ok (.string ⟨#[38, 38]⟩) W from fun _ => by kernel_rfl) W
  | 10 => exact (show ∀ W : World, (Instr.index 51 (.agg symArr) (.int .i64 10)).run Tryd.prog W = .ok (.string ⟨#[38]⟩) W from fun _ => by kernel_rfl) W
  | 11 => exact (show ∀ W : World, (Instr.index 51 (.agg symArr) (.int .i64 11)).run Tryd.prog W = .ok (.string ⟨#[124, 124]⟩) W from fun _ => by kernel_rfl) W
  | 12 => exact (show ∀ W : World, (Instr.index 51 (.agg symArr) (.int .i64 12)).run Tryd.prog W = .ok (.string ⟨#[124]⟩) W from fun _ => by kernel_rfl) W
  | 13 => exact (show ∀ W : World, (Instr.index 51 (.agg symArr) (.int .i64 13)).run Tryd.prog W = .ok (.string ⟨#[123]⟩) W from fun _ => by kernel_rfl) W
  | 14 => exact (show ∀ W : World, (Instr.index 51 (.agg symArr) (.int .i64 14)).run Tryd.prog W = .ok (.string ⟨#[125]⟩) W from fun _ => by kernel_rfl) W
  | 15 => exact (show ∀ W : World, (Instr.index 51 (.agg symArr) (.int .i64 15)).run Tryd.prog W = .ok (.string ⟨#[40]⟩) W from fun _ => by kernel_rfl) W
  | 16 => exact (show ∀ W : World, (Instr.index 51 (.agg symArr) (.int .i64 16)).run Tryd.prog W = .ok (.string ⟨#[41]⟩) W from fun _ => by kernel_rfl) W
  | 17 => exact (show ∀ W : World, (Instr.index 51 (.agg symArr) (.int .i64 17)).run Tryd.prog W = .ok (.string ⟨#[91]⟩) W from fun _ => by kernel_rfl) W
  | 18 => exact (show ∀ W : World, (Instr.index 51 (.agg symArr) (.int .i64 18)).run Tryd.prog W = .ok (.string ⟨#[93]⟩) W from fun _ => by kernel_rfl) W
  | 19 => exact (show ∀ W : World, (Instr.index 51 (.agg symArr) (.int .i64 19)).run Tryd.prog W = .ok (.string ⟨#[59]⟩) W from fun _ => by kernel_rfl) W
  | 20 => exact (show ∀ W : World, (Instr.index 51 (.agg symArr) (.int .i64 20)).run Tryd.prog W = .ok (.string ⟨#[44]⟩) W from fun _ => by kernel_rfl) W
  | 21 => exact (show ∀ W : World, (Instr.index 51 (.agg symArr) (.int .i64 21)).run Tryd.prog W = .ok (.string ⟨#[46]⟩) W from fun _ => by kernel_rfl) W
  | 22 => exact (show ∀ W : World, (Instr.index 51 (.agg symArr) (.int .i64 22)).run Tryd.prog W = .ok (.string ⟨#[63]⟩) W from fun _ => by kernel_rfl) W
  | 23 => exact (show ∀ W : World, (Instr.index 51 (.agg symArr) (.int .i64 23)).run Tryd.prog W = .ok (.string ⟨#[94]⟩) W from fun _ => by kernel_rfl) W
  | 24 => exact (show ∀ W : World, (Instr.index 51 (.agg symArr) (.int .i64 24)).run Tryd.prog W = .ok (.string ⟨#[43]⟩) W from fun _ => by kernel_rfl) W
  | 25 => exact (show ∀ W : World, (Instr.index 51 (.agg symArr) (.int .i64 25)).run Tryd.prog W = .ok (.string ⟨#[45]⟩) W from fun _ => by kernel_rfl) W
  | 26 => exact (show ∀ W : World, (Instr.index 51 (.agg symArr) (.int .i64 26)).run Tryd.prog W = .ok (.string ⟨#[42]⟩) W from fun _ => by kernel_rfl) W
  | n + 27 => exact absurd hi' (by omega)

theorem symLoad (W : World) (h : SymsAt W) : (loadVar 51 ⟨0, 0, none⟩).run Tryd.prog W = .ok (.agg symArr) W := by
  have hl : (loadCells ⟨0, 0, none⟩ symArr.toList.length).run Tryd.prog W = .ok symArr.toList.toArray W :=
    run_loadCells_list (P := Tryd.prog) W ⟨0, 0, none⟩ symArr.toList (fun j v hv => by
      have hadd : (⟨0, 0, none⟩ : Addr).add j = ⟨0, j, none⟩ := by unfold Addr.add; split <;> simp_all
      rw [hadd]
      have hv' : (symTab.map fun t => Value.string ⟨t.toArray⟩)[j]? = some v := hv
      rw [List.getElem?_map, Option.map_eq_some_iff] at hv'
      obtain ⟨t, ht, rfl⟩ := hv'
      exact h j t ht)
  have hsize : (Tryd.prog.info? 51).map (·.size) = some 27 := by kernel_rfl
  obtain ⟨i, hi, hs⟩ := Option.map_eq_some_iff.1 hsize
  have hagg : (isAgg 51).run Tryd.prog W = .ok true W := by
    unfold isAgg
    rw [Sem.run_bind, run_underlying Tryd.underlying51 W]
    rfl
  have hlen : symArr.toList.length = 27 := rfl
  rw [hlen] at hl
  simp [loadVar, Sem.run_bind, hagg, sizeOf, typeInfo, hi, hs, hl]

theorem wpList_symLoad {ops : Array Oper} {rest : List Oper} {o : Oper} {a : Act} {w : World} {Q : Exit → Act → World → Prop} (hgd : o.guard = none) (x : Operand) (ho : o.op = .load 51 x) (hx : a.eval x = .pointer (some ⟨0, 0, none⟩)) (hs : SymsAt w)
    (h : wpList Tryd.prog ops Q rest (a.put o.dst (.agg symArr)) w) : wpList Tryd.prog ops Q (o :: rest) a w :=
  wpList_plain hgd fun _ hK => by
    unfold Oper.wp execOp
    simp only [ho, hx, Instr.loadAt, Instr.sureAddr, Sem.run_bind, Sem.run_pure, Result.andThen_ok, symLoad w hs]
    exact hK _ _ h

end Go.Proofs.YtpggfkdfchafhaaDoor
