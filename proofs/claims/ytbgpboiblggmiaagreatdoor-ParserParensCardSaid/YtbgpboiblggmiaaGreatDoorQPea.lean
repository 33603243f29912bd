/-
  Expressions with every operand in parentheses: their pieces, their text, their tokens.
-/
import Derived.Test.YtbgpboiblggmiaaGreatDoorQWfd
set_option linter.unusedVariables false
set_option linter.unusedSimpArgs false
namespace Go.Proofs.YtbgpboiblggmiaaGreatDoor
open Go.RowKit
open Px (St T D Res)

/-- a byte that ends every token: no letter, digit or underscore, and in no symbol but, alone, itself -/
def Ends2 (c : UInt8) : Prop := Lx.wordU c = false ∧ Lx.digitU c = false ∧ Lx.letterU c = false ∧ ((c.toNat : Int) == 95) = false ∧ ∀ t ∈ Lx.refSyms, c ∉ t ∨ t.length ≤ 1
theorem find_app2 (ts : List (List UInt8)) (x : UInt8) (r b : List UInt8) (c : UInt8) (hc : ∀ t ∈ ts, c ∉ t ∨ t.length ≤ 1) : ts.find? (fun t => ((x :: r) ++ c :: b).take t.length == t) = ts.find? (fun t => (x :: r).take t.length == t) := by
  induction ts with
  | nil => rfl
  | cons y q ih =>
    have e : (((x :: r) ++ c :: b).take y.length == y) = ((x :: r).take y.length == y) := by
      rcases hc y (by simp) with h | h
      · exact Lx.prefix_app y (x :: r) b c h
      · rw [List.take_append_of_le_length (by simp; omega)]
    rw [List.find?_cons, List.find?_cons, e, ih (fun t ht => hc t (by simp [ht]))]
theorem tok_app2 (c : UInt8) (hc : Ends2 c) (x : UInt8) (r b : List UInt8) : Lx.tok ((x :: r) ++ c :: b) = Lx.tok (x :: r) := by
  obtain ⟨h1, h2, h3, h4, h5⟩ := hc
  have hw := Lx.run_app Lx.wordU c h1 (x :: r) b
  have hd := Lx.run_app Lx.digitU c h2 (x :: r) b
  have hs : Lx.sym ((x :: r) ++ c :: b) = Lx.sym (x :: r) := find_app2 Lx.refSyms x r b c h5
  have hn := Lx.numOk_app c h3 h4 x r b (Lx.run Lx.digitU (x :: r)) (Lx.run_le _ _)
  rw [List.cons_append] at *
  rw [Lx.tok_cons, Lx.tok_cons, hw, hd, hs, hn]
theorem ends2_blank : Ends2 32 := ⟨by decide, by decide, by decide, by decide, by decide⟩
theorem ends2_open : Ends2 40 := ⟨by decide, by decide, by decide, by decide, by decide⟩
theorem ends2_close : Ends2 41 := ⟨by decide, by decide, by decide, by decide, by decide⟩
theorem ends2_dot : Ends2 46 := ⟨by decide, by decide, by decide, by decide, by decide⟩
theorem ends2_left : Ends2 91 := ⟨by decide, by decide, by decide, by decide, by decide⟩
theorem ends2_right : Ends2 93 := ⟨by decide, by decide, by decide, by decide, by decide⟩

/-- a piece of a text: is there a blank before it, its kind, its text -/
abbrev Pc := Bool × Nat × List UInt8
def fl : List Pc → List UInt8
  | [] => []
  | (sp, _, x) :: r => (if sp then 32 :: x else x) ++ fl r
theorem fl_app : ∀ l m : List Pc, fl (l ++ m) = fl l ++ fl m
  | [], m => rfl
  | (sp, k, x) :: r, m => by rw [List.cons_append, fl, fl, fl_app r m, List.append_assoc]
/-- the text from a piece on, without the blank before it -/
def bd : List Pc → List UInt8
  | [] => []
  | (_, _, x) :: r => x ++ fl r
/-- a piece alone is one token -/
def Al (p : Pc) : Prop := Lx.tok p.2.2 = some (p.2.1, p.2.2.length)
/-- what may stand behind any piece -/
def Soft (q : Pc) : Prop := q.1 = true ∨ ∃ c r, q.2.2 = c :: r ∧ Ends2 c
/-- a piece that anything may follow -/
def Free (p : Pc) : Prop := ∀ b, Lx.tok (p.2.2 ++ b) = some (p.2.1, p.2.2.length)
def OkP : List Pc → Prop
  | [] => True
  | p :: r => Al p ∧ (match r with | [] => True | q :: _ => Free p ∨ Soft q) ∧ OkP r
theorem okp_nil : OkP [] := trivial
theorem okp_cons {p : Pc} {r : List Pc} (h : Al p) (h2 : Free p ∨ ∀ q, r.head? = some q → Soft q) (hr : OkP r) : OkP (p :: r) := by
  refine ⟨h, ?_, hr⟩
  cases r with
  | nil => trivial
  | cons q r => exact h2.imp id (fun h => h q rfl)
theorem okp_app : ∀ {l m : List Pc}, OkP l → OkP m → (∀ q, m.head? = some q → Soft q) → OkP (l ++ m)
  | [], m, _, hm, _ => hm
  | p :: r, m, h, hm, hq => by
    obtain ⟨h1, h2, h3⟩ := h
    have ih := okp_app h3 hm hq
    refine ⟨h1, ?_, ih⟩
    cases r with
    | nil =>
      cases m with
      | nil => trivial
      | cons q m => exact .inr (hq q rfl)
    | cons q r => exact h2
theorem al_ne {p : Pc} (h : Al p) : p.2.2 ≠ [] := by
  intro e
  unfold Al at h
  rw [e] at h
  simp [Lx.tok] at h
theorem tok_bd {p : Pc} {r : List Pc} (h : OkP (p :: r)) : Lx.tok (bd (p :: r)) = some (p.2.1, p.2.2.length) := by
  obtain ⟨sp, k, x⟩ := p
  obtain ⟨h1, h2, h3⟩ := h
  have hne := al_ne h1
  show Lx.tok (x ++ fl r) = some (k, x.length)
  cases r with
  | nil => rw [fl, List.append_nil]; exact h1
  | cons q r =>
    rcases h2 with h2 | h2
    · exact h2 _
    · cases x with
      | nil => exact absurd rfl hne
      | cons c x =>
        obtain ⟨sq, kq, y⟩ := q
        cases sq with
        | true =>
          rw [fl]
          have := tok_app2 32 ends2_blank c x (y ++ fl r)
          simp only [if_true, List.cons_append] at this ⊢
          rw [this]
          exact h1
        | false =>
          rcases h2 with h2 | ⟨d, y', hy, hd⟩
          · cases h2
          · have hy : y = d :: y' := hy
            subst hy
            rw [fl]
            have := tok_app2 d hd c x (y' ++ fl r)
            simp only [List.cons_append, Bool.false_eq_true, if_false] at this ⊢
            rw [this]
            exact h1
theorem skip_bd {p : Pc} {r : List Pc} (h : OkP (p :: r)) : Lx.skip false (bd (p :: r)) = 0 := by
  have ht := tok_bd h
  cases hb : bd (p :: r) with
  | nil => rfl
  | cons c q =>
    rw [hb] at ht
    have := Lx.skip_first c q [] _ _ ht
    simpa using this
theorem skip_fl : ∀ {r : List Pc}, OkP r → (fl r).drop (Lx.skip false (fl r)) = bd r
  | [], _ => rfl
  | (sp, k, x) :: r, h => by
    have hs := skip_bd h
    cases sp with
    | true =>
      rw [fl]
      simp only [if_true, List.cons_append]
      rw [Lx.sw 32 _ (by decide)]
      have e : x ++ fl r = bd ((true, k, x) :: r) := rfl
      rw [e, hs]
      rfl
    | false =>
      rw [fl]
      simp only [Bool.false_eq_true, if_false]
      have e : x ++ fl r = bd ((false, k, x) :: r) := rfl
      rw [e, hs]
      rfl
def kx (l : List Pc) : List (Nat × List UInt8) := l.map fun p => (p.2.1, p.2.2)
/-- the tokens of pieces are the pieces, unless a limit is exceeded -/
theorem G_bd : ∀ (r : List Pc), OkP r → ∀ k c, (Lx.G (bd r) k c).2.1 = 0 → Lx.keys (Lx.G (bd r) k c).1 = kx r
  | [], _, k, c, _ => rfl
  | p :: r, h, k, c, h0 => by
    have ht := tok_bd h
    have hr : OkP r := h.2.2
    obtain ⟨sp, kd, x⟩ := p
    have hne := al_ne h.1
    cases x with
    | nil => exact absurd rfl hne
    | cons d x =>
      have hb : bd ((sp, kd, d :: x) :: r) = d :: (x ++ fl r) := rfl
      rw [hb] at ht h0 ⊢
      by_cases hc : c = 1500
      · subst hc
        rw [Lx.G_full] at h0
        cases h0
      · rw [Lx.G_some d (x ++ fl r) k c _ _ hc ht] at h0 ⊢
        have hd : (d :: (x ++ fl r)).drop (d :: x).length = fl r := List.drop_left (l₁ := d :: x) (l₂ := fl r)
        have ha : Lx.after (d :: (x ++ fl r)) (d :: x).length = bd r := by unfold Lx.after; rw [hd, skip_fl hr]
        have hk : (d :: (x ++ fl r)).take (d :: x).length = d :: x := List.take_left (l₁ := d :: x) (l₂ := fl r)
        simp only at h0 ⊢
        rw [ha] at h0 ⊢
        rw [hk]
        have ih := G_bd r hr _ _ h0
        unfold Lx.keys kx at ih ⊢
        rw [List.map_cons, List.map_cons, ih]
theorem lex_pieces {r : List Pc} (h : OkP r) (hsp : ∀ p, r.head? = some p → p.1 = false) {ts : List Lx.Tok} {p : Nat} (hl : Lx.lex (fl r) = (ts, 0, p)) : Lx.keys ts = kx r := by
  have hb : fl r = bd r := by
    cases r with
    | nil => rfl
    | cons q r =>
      obtain ⟨sp, k, x⟩ := q
      have : sp = false := hsp _ rfl
      subst this
      rfl
  obtain ⟨_, hlen, _⟩ := Lx.lex_go hl
  rw [Lx.lex_G _ hlen, hb] at hl
  have hs : Lx.skip false (bd r) = 0 := by
    cases r with
    | nil => rfl
    | cons q r => exact skip_bd h
  rw [hs, List.drop_zero] at hl
  unfold Lx.fin at hl
  split at hl
  · rename_i h0
    have := G_bd r h 0 0 h0
    cases hl
    exact this
  · rename_i h0
    have h9 := (Prod.mk.inj (Prod.mk.inj hl).2).1
    exact absurd h9 h0
end Go.Proofs.YtbgpboiblggmiaaGreatDoor

