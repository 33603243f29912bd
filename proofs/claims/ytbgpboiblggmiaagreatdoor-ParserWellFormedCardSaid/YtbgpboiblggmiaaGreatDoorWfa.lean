/-
  What a parse leaves is well formed: names, paths, numbers, the shapes of nodes.
-/
import Derived.Test.YtbgpboiblggmiaaGreatDoorLwu
set_option linter.unusedVariables false
set_option linter.unusedSimpArgs false
namespace Go.Proofs.YtbgpboiblggmiaaGreatDoor
open Go.RowKit
open Px (St T D Res left)

/-- a token as the lexer makes it -/
structure TokV (t : Lx.Tok) : Prop where
  len : t.text.length ≤ 4000
  name : t.kind = 1 → 1 ≤ t.text.length ∧ t.text.length ≤ 16 ∧ (∀ c r, t.text = c :: r → Lx.letterU c = true) ∧ ∀ c ∈ t.text, Lx.wordU c = true
  num : t.kind = 2 → t.text.length ≤ 9 ∧ ∀ c ∈ t.text, Lx.digitU c = true
theorem lex_tokV {l : List UInt8} {ts : List Lx.Tok} {p : Nat} (h : Lx.lex l = (ts, 0, p)) : ∀ t ∈ ts, TokV t := by
  intro t ht
  obtain ⟨h1, h2⟩ := Lx.lex_toks h t ht
  obtain ⟨h3, h4, _⟩ := lex_ok h
  have h5 := h4 t ht
  have hp := Lx.tok_pos _ _ _ h1
  rw [List.length_drop] at hp
  refine ⟨by omega, fun hk => ?_, fun hk => ?_⟩
  · rw [hk] at h1
    cases hd : l.drop t.off with
    | nil => rw [hd] at h1; simp [Lx.tok] at h1
    | cons c r =>
      rw [hd] at h1 h2
      rw [Lx.tok_cons] at h1
      split at h1
      · rename_i hl
        split at h1
        · rename_i h16
          simp only [Option.some.injEq, Prod.mk.injEq, true_and] at h1
          rw [h1] at h16
          refine ⟨hp.1, h16, fun c' r' e => ?_, fun d hd' => ?_⟩
          · rw [h2] at e
            cases hn : t.text.length with
            | zero => omega
            | succ n => rw [hn] at e; simp at e; rw [← e.1]; exact hl
          · rw [h2, ← h1] at hd'
            unfold Lx.run at hd'
            rw [show (c :: r).take ((c :: r).takeWhile Lx.wordU).length = (c :: r).takeWhile Lx.wordU from (List.prefix_iff_eq_take.1 (List.takeWhile_prefix _)).symm] at hd'
            exact List.all_eq_true.1 List.all_takeWhile d hd'
        · cases h1
      · split at h1
        · split at h1
          · simp at h1
          · cases h1
        · cases hs : Lx.sym (c :: r) with
          | none => rw [hs] at h1; cases h1
          | some t' => rw [hs] at h1; simp at h1
  · rw [hk] at h1
    obtain ⟨h6, h7⟩ := tok_num _ _ h1
    exact ⟨h6, by rw [h2]; exact h7⟩

/-- a state whose tokens the lexer made -/
def TV (s : St) : Prop := (∀ t ∈ s.toks, TokV t) ∧ s.toks.length ≤ 1500
theorem TV.suf {s s1 : St} (h : TV s) (hs : s1.toks <:+ s.toks) : TV s1 := ⟨fun t ht => h.1 t (hs.subset ht), Nat.le_trans hs.length_le h.2⟩
/-- a property of what a reader hands back -/
def Wr {α : Type} (Φ : α → Prop) (r : Res α) (s : St) : Prop := TV s → ∀ a s1, r = .ok a s1 → Φ a ∧ TV s1
theorem wr_bind {α β : Type} {Φ : α → Prop} {Ψ : β → Prop} {r : Res α} {s : St} {f : α → St → Res β} (h : Wr Φ r s) (hf : ∀ a s1, r = .ok a s1 → TV s → Φ a → Wr Ψ (f a s1) s1) : Wr Ψ (r.bind f) s := by
  intro hv b s2 e
  obtain ⟨a, s1, e1, e2⟩ := Px.bind_inv e
  obtain ⟨h1, h2⟩ := h hv a s1 e1
  exact hf a s1 e1 hv h1 h2 b s2 e2
theorem wr_of {α : Type} {Φ : α → Prop} {r : Res α} {s s1 : St} (h : Wr Φ r s1) (hs : s1.toks <:+ s.toks) : Wr Φ r s := fun hv a s2 e => h (hv.suf hs) a s2 e
theorem wr_ok {α : Type} {Φ : α → Prop} {s : St} {a : α} (h : Φ a) : Wr Φ (.ok a s) s := fun hv b s2 e => by cases e; exact ⟨h, hv⟩
theorem wr_okr {α : Type} {Φ : α → Prop} {s : St} {a : α} (h : Φ a) : Wr Φ (.ok a (Px.rest s)) s := fun hv b s2 e => by cases e; exact ⟨h, hv.suf (Px.suf_rest s)⟩
theorem wr_bad {α : Type} {Φ : α → Prop} {s s1 : St} {d : D} : Wr Φ (.bad d s1 : Res α) s := fun _ _ _ e => by cases e
variable {E : Nat}
theorem wr_wrong {α : Type} {Φ : α → Prop} {s : St} : Wr Φ (Px.wrong E s : Res α) s := wr_bad
theorem wr_expect (x : Px.Str) (s : St) : Wr (fun _ => True) (Px.expect E x s) s := by
  unfold Px.expect
  split
  · exact wr_okr trivial
  · exact wr_wrong
theorem wr_name (s : St) : Wr NameOk (Px.name E s) s := by
  unfold Px.name
  split
  · rename_i hc
    intro hv a s1 e
    cases e
    refine ⟨?_, hv.suf (Px.suf_rest s)⟩
    obtain ⟨h1, h2⟩ := hc
    unfold Px.kindOf Px.peek at h1
    unfold Px.text Px.peek at h2 ⊢
    cases hs : s.toks with
    | nil => rw [hs] at h1; simp at h1
    | cons t r =>
      rw [hs] at h1 h2
      obtain ⟨g1, g2, g3, g4⟩ := (hv.1 t (by rw [hs]; simp)).name h1
      exact ⟨⟨g1, g2⟩, g3, g4, h2⟩
  · exact wr_wrong
def NumOk (n : Int) : Prop := 0 ≤ n ∧ n ≤ 999999999
theorem digit_val {c : UInt8} (h : Lx.digitU c = true) : 48 ≤ (c.toNat : Int) ∧ (c.toNat : Int) ≤ 57 := by
  unfold Lx.digitU Lx.digit at h
  simpa using h
theorem numVal_bound : ∀ (l : Px.Str) (a : Int) (k : Nat), (∀ c ∈ l, Lx.digitU c = true) → 0 ≤ a → a < 10 ^ k → 0 ≤ l.foldl (fun a c => 10 * a + ((c.toNat : Int) - 48)) a ∧ l.foldl (fun a c => 10 * a + ((c.toNat : Int) - 48)) a < 10 ^ (k + l.length)
  | [], a, k, _, h0, h1 => ⟨h0, by simpa using h1⟩
  | c :: r, a, k, h, h0, h1 => by
    have hc := digit_val (h c (by simp))
    have e : (10 : Int) ^ (k + 1) = 10 * 10 ^ k := by rw [Int.pow_succ]; omega
    have := numVal_bound r (10 * a + ((c.toNat : Int) - 48)) (k + 1) (fun d hd => h d (by simp [hd])) (by omega) (by omega)
    rw [List.foldl_cons, List.length_cons, show k + (r.length + 1) = k + 1 + r.length by omega]
    exact this
theorem wr_number (s : St) : Wr NumOk (Px.number E s) s := by
  unfold Px.number
  split
  · rename_i h1
    intro hv a s1 e
    cases e
    refine ⟨?_, hv.suf (Px.suf_rest s)⟩
    unfold Px.kindOf Px.peek at h1
    unfold Px.text Px.peek
    cases hs : s.toks with
    | nil => rw [hs] at h1; simp at h1
    | cons t r =>
      rw [hs] at h1
      obtain ⟨g1, g2⟩ := (hv.1 t (by rw [hs]; simp)).num h1
      have := numVal_bound t.text 0 0 g2 (by decide) (by decide)
      have h9 : (10 : Int) ^ (0 + t.text.length) ≤ 10 ^ 9 := by
        have : t.text.length = 0 ∨ t.text.length = 1 ∨ t.text.length = 2 ∨ t.text.length = 3 ∨ t.text.length = 4 ∨ t.text.length = 5 ∨ t.text.length = 6 ∨ t.text.length = 7 ∨ t.text.length = 8 ∨ t.text.length = 9 := by omega
        rcases this with h | h | h | h | h | h | h | h | h | h <;> rw [h] <;> decide
      unfold NumOk Px.numVal
      have e9 : (10 : Int) ^ 9 = 1000000000 := by decide
      simp only
      omega
  · exact wr_wrong
theorem wr_length (s : St) : Wr NumOk (Px.length E s) s := by
  unfold Px.length
  split
  · exact wr_bad
  · exact wr_number s
end Go.Proofs.YtbgpboiblggmiaaGreatDoor
