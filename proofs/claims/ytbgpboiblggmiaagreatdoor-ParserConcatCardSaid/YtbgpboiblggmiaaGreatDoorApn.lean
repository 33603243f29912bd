/-
  An append of a row of trees, empty or not, as an operation of a region.
-/
import Derived.Test.YtbgpboiblggmiaaGreatDoorLve
import Derived.Deep.AppendLies
import Derived.Laws.AppendOwnNone
import Derived.Laws.OwnMore
set_option linter.unusedVariables false
set_option linter.unusedSimpArgs false
namespace Go.Proofs.YtbgpboiblggmiaaGreatDoor
open Go.RowKit
open Px (St T D Res)

theorem run_append_none (w : World) (ty : TypeId) (base : Nat) (v : Value) (n : Nat) (xs : List Value) (c : Nat) (hown : w.ownsRow base 25 9 v n xs) :
    (Builtin.append_ #[23, 23] ty #[v, .slice none 0 c]).run Tryz.prog w = .ok v w := by
  obtain ⟨i0, hi, _, _, _⟩ := info_parts infoNode
  rcases hown.2 with ⟨rfl, rfl⟩ | ⟨g, cap, cur, rfl, _, _, hnc, _⟩
  · simp [Builtin.append_, run_underlying Tryz.underlying23, sizeOf, typeInfo, hi, Builtin.lenOf, Builtin.firstCells]
  · simp [Builtin.append_, run_underlying Tryz.underlying23, sizeOf, typeInfo, hi, Builtin.lenOf, Builtin.firstCells, hnc, storeCells]
theorem run_append_row (w : World) (ty : TypeId) (base : Nat) (v : Value) (n : Nat) (xs : List Value) (hown : w.ownsRow base 25 9 v n xs) (a : Option Addr) (m c : Nat) (ys : List Value) (ha : a = none → m = 0)
    (hl : ys.length = m * 9) (hc : ∀ ad, a = some ad → ∀ j u, ys[j]? = some u → w.cell? (ad.add j) = some u) (h1 : ∀ u ∈ ys, u.oneCell' = true) (h63 : n + m ≤ 900000) (hbase : base ≤ w.heap.size) :
    ∃ v' w', (Builtin.append_ #[23, 23] ty #[v, .slice a m c]).run Tryz.prog w = .ok v' w' ∧ w'.ownsRow base 25 9 v' (n + m) (xs ++ ys) ∧ w.grownBy w' v.ownBlock ∧ (v'.ownBlock = v.ownBlock ∨ v'.ownBlock = some w.heap.size) := by
  obtain ⟨i0, hi, hz0, hz1, hz2⟩ := info_parts infoNode
  cases a with
  | none =>
    obtain rfl := ha rfl
    obtain rfl : ys = [] := List.length_eq_zero_iff.1 (by omega)
    refine ⟨v, w, run_append_none w ty base v n xs c hown, ?_, World.grownBy.refl _ _, .inl rfl⟩
    simpa using hown
  | some ad =>
    obtain ⟨v', w', hr, h2, h3, _, h5⟩ := run_append_own_at (P := Tryz.prog) w base 23 ty 25 i0 _ 9 104 Tryz.underlying23 hi hz0 hz1 hz2 (by rfl) (by omega) v n xs hown ad m c ys hl (hc ad rfl) h1 (by unfold maxLen; omega) (by omega) hbase
    exact ⟨v', w', hr, h2, h3, h5⟩
theorem run_append_op {a : Act} {dst : Option Tmp} {s x : Operand} {ty : TypeId} {pos : String} {after : Array Edge} {guard : Option (Nat × Bool)} {w w' : World} {v v' y : Value}
    (hs : a.eval s = v) (hx : a.eval x = y) (hr : (Builtin.append_ #[23, 23] ty #[v, y]).run Tryz.prog w = .ok v' w') :
    (execOp a.eval ⟨dst, .call { callee := .builtin .append, args := #[s, x], argTypes := #[23, 23] }, ty, pos, after, guard⟩).run Tryz.prog w = .ok (.value v') w' := by
  simp [execOp, resolve, invoke, builtin, hs, hx, hr, Result.andThen]
theorem RNodes.len {N : Nat} {w : World} : ∀ (l : List T) (xs : List Value), RNodes N w l xs → xs.length = l.length * 9
  | [], xs, h => by rw [RNodes] at h; subst h; rfl
  | t :: r, xs, h => by
    rw [RNodes] at h
    obtain ⟨kv, rest, rfl, _, h⟩ := h
    have := RNodes.len r rest h
    rw [List.length_append, this, List.length_cons, show (nodeCells t kv).length = 9 from rfl]
    omega
theorem RNodes.ones {N : Nat} {w : World} : ∀ (l : List T) (xs : List Value), RNodes N w l xs → ∀ u ∈ xs, u.oneCell' = true
  | [], xs, h, u, hu => by rw [RNodes] at h; subst h; cases hu
  | t :: r, xs, h, u, hu => by
    rw [RNodes] at h
    obtain ⟨kv, rest, rfl, hk, h⟩ := h
    rcases List.mem_append.1 hu with hu | hu
    · obtain ⟨a, cap, rfl⟩ := ((rkids_iff _ _ _ _).1 hk).form
      exact node_ones _ _ _ _ u hu
    · exact RNodes.ones r rest h u hu
theorem RNodes.app {N : Nat} {w : World} : ∀ (l m : List T) (xs ys : List Value), RNodes N w l xs → RNodes N w m ys → RNodes N w (l ++ m) (xs ++ ys)
  | [], m, xs, ys, h, k => by rw [RNodes] at h; subst h; exact k
  | t :: r, m, xs, ys, h, k => by
    rw [RNodes] at h
    obtain ⟨kv, rest, rfl, h1, h2⟩ := h
    rw [List.cons_append, RNodes]
    exact ⟨kv, rest ++ ys, List.append_assoc _ _ _, h1, RNodes.app r m rest ys h2 k⟩
/-- what an append reads of a row of trees -/
theorem row_cells {N : Nat} {w : World} {l : List T} {a : Option Addr} {n cap : Nat} (h : RRow N w l (.slice a n cap)) :
    n = l.length ∧ ∃ xs, RNodes N w l xs ∧ xs.length = n * 9 ∧ (a = none → n = 0) ∧ (∀ ad, a = some ad → ∀ j u, xs[j]? = some u → w.cell? (ad.add j) = some u) ∧ (∀ u ∈ xs, u.oneCell' = true) := by
  obtain ⟨a', c', xs, h1, _, h2, h3⟩ := h
  cases h1
  have hlen := RNodes.len l xs h3
  refine ⟨rfl, xs, h3, hlen, fun ha => ?_, fun ad ha j u hu => ?_, RNodes.ones l xs h3⟩
  · rcases h2 with h2 | ⟨b, o, cur, fz, hb, _⟩
    · rw [h2] at hlen
      simp only [List.length_nil] at hlen
      omega
    · rw [ha] at hb; cases hb
  · rcases h2 with h2 | ⟨b, o, cur, fz, hb, _, hc, hx⟩
    · rw [h2] at hu; simp at hu
    · rw [ha] at hb
      cases hb
      have := cell_of_obj hc (o + j)
      unfold Addr.add
      split
      · rename_i h0
        subst h0
        rw [cell_of_obj hc]
        exact hx 0 u hu
      · rw [show (⟨b, o + j, none⟩ : Addr) = ⟨b, o + j, none⟩ from rfl, this]
        exact hx j u hu
/-- a row of the call's own that holds trees -/
theorem rrow_own {base : Nat} {w : World} {l : List T} {v : Value} {xs : List Value} (hown : w.ownsRow base 25 9 v l.length xs) (h : RNodes w.heap.size w l xs) (hm : l.length ≤ maxLen) : ∃ a cap, v = .slice a l.length cap ∧ RRow w.heap.size w l v := by
  obtain ⟨a, cap, rfl⟩ := ownsRow_form hown
  refine ⟨a, cap, rfl, a, cap, xs, rfl, hm, ?_, h⟩
  rcases hown.2 with ⟨h1, h2⟩ | ⟨g, c, cur, hv, _, hg, _, _, _, ht⟩
  · left
    have := hown.1
    rw [h2] at this
    exact List.length_eq_zero_iff.1 (by omega)
  · cases hv
    refine .inr ⟨g, 0, cur, (0, 0), rfl, (Array.getElem?_eq_some_iff.1 hg).1, hg, fun j u hu => ?_⟩
    rw [← ht, List.getElem?_take] at hu
    rw [Nat.zero_add]
    split at hu
    · rw [Array.getElem?_toList] at hu; exact hu
    · cases hu
end Go.Proofs.YtbgpboiblggmiaaGreatDoor
