/-
  A source that is written anew with other gaps before its tokens: its tokens and their offsets; parsing it.
-/
import Derived.Test.YtbgpboiblggmiaaGreatDoorQSzc
set_option linter.unusedVariables false
set_option linter.unusedSimpArgs false
namespace Go.Proofs.YtbgpboiblggmiaaGreatDoor.Lx

end Go.Proofs.YtbgpboiblggmiaaGreatDoor.Lx
namespace Go.Proofs.YtbgpboiblggmiaaGreatDoor.Px
open Lx (Tok)

/-- diagnostics one by one -/
inductive RelDs (ρ : Int → Int → Prop) : List D → List D → Prop where
  | nil : RelDs ρ [] []
  | snoc (l l' : List D) (e o o' : Int) (h : RelDs ρ l l') (ho : ρ o o') : RelDs ρ (l ++ [⟨e, o⟩]) (l' ++ [⟨e, o'⟩])
theorem RelDs.len {ρ : Int → Int → Prop} {l l' : List D} (h : RelDs ρ l l') : l.length = l'.length := by
  induction h with
  | nil => rfl
  | snoc l l' e o o' h ho ih => simp [ih]
theorem RelDs.get {ρ : Int → Int → Prop} {l l' : List D} (h : RelDs ρ l l') : ∀ (m : Nat) (d : D), l[m]? = some d → ∃ d', l'[m]? = some d' ∧ d'.err = d.err ∧ ρ d.off d'.off := by
  induction h with
  | nil => intro m d h; simp at h
  | snoc l l' e o o' h ho ih =>
    intro m d hd
    have hl := h.len
    by_cases hm : m < l.length
    · rw [List.getElem?_append_left hm] at hd
      rw [List.getElem?_append_left (by omega)]
      exact ih m d hd
    · rw [List.getElem?_append_right (by omega)] at hd
      rw [List.getElem?_append_right (by omega), ← hl]
      cases hk : m - l.length with
      | zero => rw [hk] at hd; simp at hd; subst hd; exact ⟨_, rfl, rfl, ho⟩
      | succ k => rw [hk] at hd; simp at hd
theorem report_snoc (d e : D) (l : List D) : report d (l ++ [e]) = if l.length + 1 < 20 ∧ e.off ≠ d.off then l ++ [e] ++ [d] else l ++ [e] := by
  unfold report
  rw [List.getLast?_concat]
  simp only [List.length_append, List.length_singleton, Bool.and_eq_true, decide_eq_true_eq]
theorem RelDs.report {ρ : Int → Int → Prop} (hinj : ∀ {a a' b b' : Int}, ρ a a' → ρ b b' → (a = b ↔ a' = b')) {l l' : List D} (h : RelDs ρ l l') (e o o' : Int) (ho : ρ o o') : RelDs ρ (report ⟨e, o⟩ l) (report ⟨e, o'⟩ l') := by
  have h0 := h
  cases h with
  | nil => exact RelDs.snoc [] [] e o o' .nil ho
  | snoc l l' e1 o1 o1' h ho1 =>
    rw [report_snoc, report_snoc]
    have hl := h.len
    by_cases hc : l.length + 1 < 20 ∧ o1 ≠ o
    · rw [if_pos hc, if_pos ⟨by omega, fun h => hc.2 ((hinj ho1 ho).2 h)⟩]
      exact RelDs.snoc _ _ e o o' h0 ho
    · rw [if_neg hc, if_neg (fun h => hc ⟨by omega, fun h' => h.2 ((hinj ho1 ho).1 h')⟩)]
      exact h0
end Go.Proofs.YtbgpboiblggmiaaGreatDoor.Px

