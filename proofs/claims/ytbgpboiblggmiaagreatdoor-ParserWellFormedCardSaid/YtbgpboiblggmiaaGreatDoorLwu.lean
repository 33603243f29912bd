/-
  What the walks over the parser's laws share: beginnings of strings and of rows of trees.
-/
import Derived.Test.YtbgpboiblggmiaaGreatDoorBaseG
import Derived.Test.YtbgpboiblggmiaaGreatDoorSzc
set_option linter.unusedVariables false
set_option linter.unusedSimpArgs false
namespace Go.Proofs.YtbgpboiblggmiaaGreatDoor
open Go.RowKit
open Px (St T D Res)

/-- a beginning of a string, cut at an index that may be a sum -/
theorem slice_front (s : ByteArray) (y : Int) (j : Nat) (hy : y = j) (h2 : j ≤ s.size) (W : World) : (Instr.slice 9 (.string s) none (some (.int .i64 y)) none).run Tryz.prog W = .ok (.string (s.extract 0 j)) W := by
  subst hy
  rw [run_slice_string_to_if W _ s _ _ Tryz.underlying9]
  rw [if_pos (by omega)]
  simp
theorem extract_front (s : ByteArray) (j : Nat) : (s.extract 0 j).data.toList = s.data.toList.take j := by
  rw [Lib.extract_data]
  simp

theorem rnodes_front {N : Nat} {w : World} : ∀ (l m : List T) (xs : List Value), RNodes N w (l ++ m) xs → ∃ x1 x2, xs = x1 ++ x2 ∧ RNodes N w l x1
  | [], m, xs, h => ⟨[], xs, rfl, by rw [RNodes]⟩
  | t :: l, m, xs, h => by
    rw [List.cons_append, RNodes] at h
    obtain ⟨kv, rest, h1, h2, h3⟩ := h
    obtain ⟨x1, x2, h4, h5⟩ := rnodes_front l m rest h3
    refine ⟨nodeCells t kv ++ x1, x2, by rw [h1, h4, List.append_assoc], ?_⟩
    rw [RNodes]
    exact ⟨kv, x1, rfl, h2, h5⟩
/-- a beginning of a row of trees -/
theorem RRow.front {N : Nat} {w : World} {l m : List T} {a : Option Addr} {n cap cap' : Nat} (h : RRow N w (l ++ m) (.slice a n cap)) : RRow N w l (.slice a l.length cap') := by
  obtain ⟨a', c', xs, h1, hm, h2, h3⟩ := h
  cases h1
  obtain ⟨x1, x2, h4, h5⟩ := rnodes_front l m xs h3
  subst h4
  rw [List.length_append] at hm
  refine ⟨a, cap', x1, rfl, by omega, ?_, h5⟩
  rcases h2 with h2 | ⟨b, o, cur, fz, ha, hb, hc, hx⟩
  · exact .inl (List.append_eq_nil_iff.1 h2).1
  · refine .inr ⟨b, o, cur, fz, ha, hb, hc, fun j v hv => hx j v ?_⟩
    rw [List.getElem?_append_left (List.getElem?_eq_some_iff.1 hv).1]
    exact hv
theorem cntL_size (m : Int) : ∀ (l : List T) (c : Int), (∀ t ∈ l, ∀ m, cntT t m ≤ Px.size t) → cntL l m c ≤ c + Px.sizes l
  | [], c, _ => by rw [cntL, Px.sizes]; omega
  | t :: r, c, h => by
    rw [cntL, Px.sizes]
    split
    · have h1 := cntL_size m r (c + cntT t (m - c)) (fun u hu => h u (by simp [hu]))
      have h2 := h t (by simp) (m - c)
      omega
    · have : (0 : Int) ≤ (Px.size t : Int) + (Px.sizes r : Int) := by omega
      omega
theorem cntT_size : ∀ (n : Nat) (t : T) (m : Int), Px.size t ≤ n → cntT t m ≤ Px.size t
  | 0, t, _, h => by cases t; rw [Px.size] at h; omega
  | n + 1, .mk _ _ _ _ _ _ _ kids _, m, h => by
    rw [cntT]
    rw [Px.size] at h ⊢
    have := cntL_size m kids 1 (fun t ht m => by
      refine cntT_size n t m ?_
      have : Px.size t ≤ Px.sizes kids := by
        clear h
        induction kids with
        | nil => cases ht
        | cons x r ih =>
          rw [Px.sizes]
          rcases List.mem_cons.1 ht with rfl | h'
          · omega
          · have := ih h'; omega
      omega)
    omega
/-- a tree that Parse returns is not too large -/
theorem few_parse (s : List UInt8) {X : T} {d : List D} (h : Px.parse s = (X, d)) : decide (cntT X 4000 ≤ 4000) = true := by
  have h1 : Px.size X ≤ 3001 := by
    have := Px.parse_size (src := s)
    rw [h] at this
    exact this
  have h2 := cntT_size _ X 4000 (Nat.le_refl _)
  exact decide_eq_true (by omega)
end Go.Proofs.YtbgpboiblggmiaaGreatDoor
