/-
  The table of levels of the reference (Levels).
-/
import Derived.Test.YtbgpboiblggmiaaGreatDoorQBaseG
set_option linter.unusedVariables false
set_option linter.unusedSimpArgs false
namespace Go.Proofs.YtbgpboiblggmiaaGreatDoor
open Go.RowKit
open Px (St T D Res)

/-- the operators of each level -/
def lvls : List (List Px.Str) := [[[124, 124]], [[38, 38]], [[61, 61], [33, 61], [60], [60, 61]], [[124]], [[94]], [[38]], [[43], [45]], [[42]]]

/-- the table stands in nine blocks from g on -/
structure LvAt (W : World) (g : Nat) : Prop where
  size : g + 9 ≤ W.heap.size
  outer : ∀ i l, lvls[i]? = some l → W.cell? ⟨g + 8, i, none⟩ = some (.slice (some ⟨g + i, 0, none⟩) l.length l.length)
  inner : ∀ i l k x, lvls[i]? = some l → l[k]? = some x → W.cell? ⟨g + i, k, none⟩ = some (.string ⟨x.toArray⟩)
theorem LvAt.below {N : Nat} {W W' : World} {g : Nat} (h : LvAt W g) (hb : Below N W W') (hN : g + 9 ≤ N) : LvAt W' g := by
  refine ⟨Nat.le_trans h.size hb.size, fun i l hi => ?_, fun i l k x hi hk => ?_⟩
  · exact (hb.cell (p := ⟨g + 8, i, none⟩) (by show g + 8 < N; omega)).trans (h.outer i l hi)
  · have : i < 8 := by have := (List.getElem?_eq_some_iff.1 hi).1; simpa [lvls] using this
    exact (hb.cell (p := ⟨g + i, k, none⟩) (by show g + i < N; omega)).trans (h.inner i l k x hi hk)

set_option maxRecDepth 100000 in
set_option maxHeartbeats 2000000 in
theorem levels_any (w : World) : Calls Tryz.prog 47 #[] w fun e w' => e = .returned (.slice (some ⟨w.heap.size + 8, 0, none⟩) 8 8) ∧ Below w.heap.size w w' ∧ LvAt w' w.heap.size := by
  go_enter Tryz.func47, Tryz.ntmps47
  go_wp2_with fail
  refine bodyPost_ret (v := .slice (some ⟨w.heap.size + 8, 0, none⟩) 8 8) ?_ rfl ?_
  · simp [results, Tryz.results47, go_sem]
  obtain ⟨W, hW⟩ : ∃ W, W = (((((((((w).alloc (.cells #[.string ⟨#[124, 124]⟩] 9)).alloc (.cells #[.string ⟨#[38, 38]⟩] 9)).alloc (.cells #[.string ⟨#[61, 61]⟩, .string ⟨#[33, 61]⟩, .string ⟨#[60]⟩, .string ⟨#[60, 61]⟩] 9)).alloc (.cells #[.string ⟨#[124]⟩] 9)).alloc (.cells #[.string ⟨#[94]⟩] 9)).alloc (.cells #[.string ⟨#[38]⟩] 9)).alloc (.cells #[.string ⟨#[43]⟩, .string ⟨#[45]⟩] 9)).alloc (.cells #[.string ⟨#[42]⟩] 9)).alloc (.cells #[.slice (some ⟨w.heap.size, 0, none⟩) 1 1, .slice (some ⟨w.heap.size + 1, 0, none⟩) 1 1, .slice (some ⟨w.heap.size + 1 + 1, 0, none⟩) 4 4, .slice (some ⟨w.heap.size + 1 + 1 + 1, 0, none⟩) 1 1, .slice (some ⟨w.heap.size + 1 + 1 + 1 + 1, 0, none⟩) 1 1, .slice (some ⟨w.heap.size + 1 + 1 + 1 + 1 + 1, 0, none⟩) 1 1, .slice (some ⟨w.heap.size + 1 + 1 + 1 + 1 + 1 + 1, 0, none⟩) 2 2, .slice (some ⟨w.heap.size + 1 + 1 + 1 + 1 + 1 + 1 + 1, 0, none⟩) 1 1] 39) := ⟨_, rfl⟩
  rw [← hW]
  have V0 : Var 9 W (w.heap.size + 0) #[.string ⟨#[124, 124]⟩] := by rw [hW]; (repeat (first | exact Var.new' (by simp <;> omega) | refine Var.alloc ?_ _))
  have V1 : Var 9 W (w.heap.size + 1) #[.string ⟨#[38, 38]⟩] := by rw [hW]; (repeat (first | exact Var.new' (by simp <;> omega) | refine Var.alloc ?_ _))
  have V2 : Var 9 W (w.heap.size + 2) #[.string ⟨#[61, 61]⟩, .string ⟨#[33, 61]⟩, .string ⟨#[60]⟩, .string ⟨#[60, 61]⟩] := by rw [hW]; (repeat (first | exact Var.new' (by simp <;> omega) | refine Var.alloc ?_ _))
  have V3 : Var 9 W (w.heap.size + 3) #[.string ⟨#[124]⟩] := by rw [hW]; (repeat (first | exact Var.new' (by simp <;> omega) | refine Var.alloc ?_ _))
  have V4 : Var 9 W (w.heap.size + 4) #[.string ⟨#[94]⟩] := by rw [hW]; (repeat (first | exact Var.new' (by simp <;> omega) | refine Var.alloc ?_ _))
  have V5 : Var 9 W (w.heap.size + 5) #[.string ⟨#[38]⟩] := by rw [hW]; (repeat (first | exact Var.new' (by simp <;> omega) | refine Var.alloc ?_ _))
  have V6 : Var 9 W (w.heap.size + 6) #[.string ⟨#[43]⟩, .string ⟨#[45]⟩] := by rw [hW]; (repeat (first | exact Var.new' (by simp <;> omega) | refine Var.alloc ?_ _))
  have V7 : Var 9 W (w.heap.size + 7) #[.string ⟨#[42]⟩] := by rw [hW]; (repeat (first | exact Var.new' (by simp <;> omega) | refine Var.alloc ?_ _))
  have V8 : Var 39 W (w.heap.size + 8) #[.slice (some ⟨w.heap.size + 0, 0, none⟩) 1 1, .slice (some ⟨w.heap.size + 1, 0, none⟩) 1 1, .slice (some ⟨w.heap.size + 2, 0, none⟩) 4 4, .slice (some ⟨w.heap.size + 3, 0, none⟩) 1 1, .slice (some ⟨w.heap.size + 4, 0, none⟩) 1 1, .slice (some ⟨w.heap.size + 5, 0, none⟩) 1 1, .slice (some ⟨w.heap.size + 6, 0, none⟩) 2 2, .slice (some ⟨w.heap.size + 7, 0, none⟩) 1 1] := by rw [hW]; exact Var.new' (by simp <;> omega)
  have hb : Below w.heap.size w W := by rw [hW]; exact ((((((((((Below.refl _ _).alloc (Nat.le_refl _) _).alloc (by simp <;> omega) _).alloc (by simp <;> omega) _).alloc (by simp <;> omega) _).alloc (by simp <;> omega) _).alloc (by simp <;> omega) _).alloc (by simp <;> omega) _).alloc (by simp <;> omega) _).alloc (by simp <;> omega) _)
  have hsz : W.heap.size = w.heap.size + 9 := by rw [hW]; simp
  clear hW
  refine ⟨rfl, hb, by omega, fun i l h => ?_, fun i l k x h hk => ?_⟩
  · rw [cell_of_obj V8]
    rcases i with _ | _ | _ | _ | _ | _ | _ | _ | i
    all_goals first | (simp [lvls] at h; subst h; rfl) | (simp [lvls] at h)
  · rcases i with _ | _ | _ | _ | _ | _ | _ | _ | i
    · simp [lvls] at h; subst h; rw [cell_of_obj V0]; rcases k with _ | k; all_goals first | (simp at hk; subst hk; rfl) | (simp at hk)
    · simp [lvls] at h; subst h; rw [cell_of_obj V1]; rcases k with _ | k; all_goals first | (simp at hk; subst hk; rfl) | (simp at hk)
    · simp [lvls] at h; subst h; rw [cell_of_obj V2]; rcases k with _ | _ | _ | _ | k; all_goals first | (simp at hk; subst hk; rfl) | (simp at hk)
    · simp [lvls] at h; subst h; rw [cell_of_obj V3]; rcases k with _ | k; all_goals first | (simp at hk; subst hk; rfl) | (simp at hk)
    · simp [lvls] at h; subst h; rw [cell_of_obj V4]; rcases k with _ | k; all_goals first | (simp at hk; subst hk; rfl) | (simp at hk)
    · simp [lvls] at h; subst h; rw [cell_of_obj V5]; rcases k with _ | k; all_goals first | (simp at hk; subst hk; rfl) | (simp at hk)
    · simp [lvls] at h; subst h; rw [cell_of_obj V6]; rcases k with _ | _ | k; all_goals first | (simp at hk; subst hk; rfl) | (simp at hk)
    · simp [lvls] at h; subst h; rw [cell_of_obj V7]; rcases k with _ | k; all_goals first | (simp at hk; subst hk; rfl) | (simp at hk)
    · simp [lvls] at h
end Go.Proofs.YtbgpboiblggmiaaGreatDoor

