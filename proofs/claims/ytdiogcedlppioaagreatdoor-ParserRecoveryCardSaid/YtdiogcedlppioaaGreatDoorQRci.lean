/-
  ParserRecovery: what the walk needs of the plain parts: where the law inserts, and what the new source reads as.
-/
import Derived.Test.YtdiogcedlppioaaGreatDoorQItm
set_option linter.unusedVariables false
set_option linter.unusedSimpArgs false
namespace Go.Proofs.YtdiogcedlppioaaGreatDoor
open Go.RowKit
open Px (St T D Res itemsT itemsG)

theorem parse_open {l : List UInt8} {X : T} (h : Px.parse l = (X, [])) : ∃ ts q xs, Lx.lex l = (ts, 0, q) ∧ X = Px.source xs := by
  obtain ⟨⟨ts, k, p⟩, hlex⟩ : ∃ r, Lx.lex l = r := ⟨_, rfl⟩
  cases k with
  | succ k =>
    unfold Px.parse at h
    rw [hlex] at h
    have h2 : (Px.source [], [(⟨((k + 1 : Nat) : Int), p⟩ : D)]) = (X, []) := (if_pos (by intro h; cases h) : _ = _).symm.trans h
    cases (Prod.mk.inj h2).2
  | zero =>
    obtain ⟨_, _, h3⟩ := Px.parse_clean hlex (by rw [h])
    rw [h] at h3
    exact ⟨ts, p, _, hlex, (Prod.mk.inj h3).1⟩
/-- where the law inserts: at an item, or at the end -/
theorem place_of {s : ByteArray} {X : T} (h : Px.parse s.data.toList = (X, [])) {m : Nat} {p : Int} (hp : (itemsT X ++ [(s.size : Int)])[m]? = some p) : ∃ a : Nat, p = a ∧ a ≤ s.size ∧ (a < s.size → (a : Int) ∈ itemsT X) := by
  obtain ⟨ts, q, xs, h1, rfl⟩ := parse_open h
  have h2 : itemsT (Px.source xs) = itemsG true xs := by unfold Px.source T.of; rw [itemsT]; rfl
  rcases List.mem_append.1 (List.mem_of_getElem? hp) with hi | hi
  · rw [h2] at hi ⊢
    obtain ⟨a, ha, hlt, _⟩ := Px.recovery_in (us := ts) (q := q) h1 h hi
    have hs : s.data.toList.length = s.size := rfl
    refine ⟨a, ha, by omega, fun _ => ha ▸ hi⟩
  · exact ⟨s.size, List.mem_singleton.1 hi, Nat.le_refl _, fun h => absurd h (Nat.lt_irrefl _)⟩
theorem items_cell {w : World} {B g Q cap : Nat} {I : List Int} {z : Int} (hQ : Q = I.length + 1) (h : w.ownsRow B 3 1 (.slice (some ⟨g, 0, none⟩) Q cap) Q (I.map offV ++ [.int .i64 z])) {m : Nat} (hm : m < Q) :
    ∃ p, (I ++ [z])[m]? = some p ∧ w.cell? ⟨g, m, none⟩ = some (.int .i64 p) ∧ w.frozen? ⟨g, m, none⟩ = false := by
  have hl : m < (I ++ [z]).length := by rw [List.length_append]; simp; omega
  refine ⟨(I ++ [z])[m], List.getElem?_eq_getElem hl, ?_, h.frozenAt m⟩
  rw [h.cellAt m (by omega)]
  have e : I.map offV ++ [Value.int .i64 z] = (I ++ [z]).map offV := by rw [List.map_append]; rfl
  rw [e, List.getElem?_map, List.getElem?_eq_getElem hl]
  rfl

mutual
theorem relT_strip : ∀ (t t' : T), Px.RelT Px.tt t t' → stripT t = stripT t'
  | .mk k x y n l i g kids o, .mk k' x' y' n' l' i' g' kids' o', h => by
    unfold Px.RelT at h
    obtain ⟨h1, h2, h3, h4, h5, h6, h7, h8, h9⟩ := h
    rw [stripT, stripT, h1, h2, h3, h4, h5, h6, h7, relL_strip kids kids' h9]
theorem relL_strip : ∀ (l l' : List T), Px.RelL Px.tt l l' → stripL l = stripL l'
  | [], [], _ => rfl
  | t :: r, t' :: r', h => by
    unfold Px.RelL at h
    rw [stripL, stripL, relT_strip t t' h.1, relL_strip r r' h.2]
  | [], _ :: _, h => by unfold Px.RelL at h; exact h.elim
  | _ :: _, [], h => by unfold Px.RelL at h; exact h.elim
end
theorem source_strip {l l' : List T} (h : stripL l = stripL l') : stripT (Px.source l) = stripT (Px.source l') := by
  unfold Px.source T.of
  rw [stripT, stripT, h]
/-- an insertion ahead of an item -/
theorem rec_mid {s : ByteArray} {X : T} (h : Px.parse s.data.toList = (X, [])) {y : Nat} (hy : (y : Int) ∈ itemsT X) {us : List Lx.Tok} {q : Nat} (hl : Lx.lex (s.extract 0 y ++ { data := #[63, 59, 32] } ++ s.extract y s.size).data.toList = (us, 0, q)) :
    ∃ Y, Px.parse (s.extract 0 y ++ { data := #[63, 59, 32] } ++ s.extract y s.size).data.toList = (Y, [⟨20, (y : Int)⟩]) ∧ stripT X = stripT Y := by
  obtain ⟨ts, p, xs, h1, rfl⟩ := parse_open h
  have h2 : itemsT (Px.source xs) = itemsG true xs := by unfold Px.source T.of; rw [itemsT]; rfl
  rw [h2] at hy
  have e : (s.extract 0 y ++ { data := #[63, 59, 32] } ++ s.extract y s.size).data.toList = s.data.toList.take y ++ ([63, 59, 32] ++ s.data.toList.drop y) := by
    have e1 := extract_front s y
    have e2 : (s.extract y s.size).data.toList = s.data.toList.drop y := by
      rw [Lib.extract_data]
      exact List.take_of_length_le (by rw [List.length_drop]; exact Nat.le_refl _)
    simp only [ByteArray.data_append, Array.toList_append, e1, e2, List.append_assoc]
  rw [e] at hl ⊢
  obtain ⟨a, ha, hlt, hr⟩ := Px.recovery_in (us := us) (q := q) h1 h hy
  have hay : a = y := by omega
  subst hay
  obtain ⟨ys, h3, h4⟩ := hr hl
  exact ⟨_, h3, source_strip (relL_strip _ _ h4)⟩
/-- an insertion at the end -/
theorem rec_last {s : ByteArray} {X : T} (h : Px.parse s.data.toList = (X, [])) {us : List Lx.Tok} {q : Nat} (hl : Lx.lex (s ++ { data := #[10] } ++ { data := #[63, 59, 32] }).data.toList = (us, 0, q)) :
    ∃ Y, Px.parse (s ++ { data := #[10] } ++ { data := #[63, 59, 32] }).data.toList = (Y, [⟨20, ((s.size + 1 : Nat) : Int)⟩]) ∧ stripT X = stripT Y := by
  obtain ⟨ts, p, xs, h1, rfl⟩ := parse_open h
  have e : (s ++ { data := #[10] } ++ { data := #[63, 59, 32] }).data.toList = s.data.toList ++ 10 :: [63, 59, 32] := by
    simp only [ByteArray.data_append, Array.toList_append, List.append_assoc, List.cons_append, List.nil_append]
  rw [e] at hl ⊢
  obtain ⟨ys, h3, h4⟩ := Px.recovery_end h1 h hl
  exact ⟨_, h3, source_strip (relL_strip _ _ h4)⟩
end Go.Proofs.YtdiogcedlppioaaGreatDoor

