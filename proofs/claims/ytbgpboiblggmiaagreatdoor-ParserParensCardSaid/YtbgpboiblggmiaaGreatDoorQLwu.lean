/-
  What the walks over the parser's laws share: beginnings of strings and of rows of trees.
-/
import Derived.Test.YtbgpboiblggmiaaGreatDoorQBaseG
import Derived.Test.YtbgpboiblggmiaaGreatDoorQSzc
set_option linter.unusedVariables false
set_option linter.unusedSimpArgs false
namespace Go.Proofs.YtbgpboiblggmiaaGreatDoor
open Go.RowKit
open Px (St T D Res)

theorem cntL_size (m : Int) : ∀ (l : List T) (c : Int), (∀ t ∈ l, ∀ m, cntT t m ≤ Px.size t) → cntL l m c ≤ c + Px.sizes l
  | [], c, _ => by rw [cntL, Px.sizes]; omega
  | t :: r, c, h => by
    rw [cntL, Px.sizes]
    split
    · have h1 := cntL_size m r (c + cntT t (m - c)) (fun u hu => h u (by simp [hu]))
      have h2 := h t (by simp) (m - c)
      omega
    · have : (0 : Int) ≤ (Px.size t : Int) + (Px.sizes r : Int) := by omega
      omega
theorem cntT_size : ∀ (n : Nat) (t : T) (m : Int), Px.size t ≤ n → cntT t m ≤ Px.size t
  | 0, t, _, h => by cases t; rw [Px.size] at h; omega
  | n + 1, .mk _ _ _ _ _ _ _ kids _, m, h => by
    rw [cntT]
    rw [Px.size] at h ⊢
    have := cntL_size m kids 1 (fun t ht m => by
      refine cntT_size n t m ?_
      have : Px.size t ≤ Px.sizes kids := by
        clear h
        induction kids with
        | nil => cases ht
        | cons x r ih =>
          rw [Px.sizes]
          rcases List.mem_cons.1 ht with rfl | h'
          · omega
          · have := ih h'; omega
      omega)
    omega
end Go.Proofs.YtbgpboiblggmiaaGreatDoor

