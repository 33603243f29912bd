/-
  More plain laws of the lexer: the tokens at a position, cases.
-/
import Derived.Test.YtpggfkdfchafhaaDoorLxSpec
namespace Go.Proofs.YtpggfkdfchafhaaDoor.Lx

theorem tok_letter (l : List UInt8) (a : Nat) (h : a < l.length) (hl : letterU l[a] = true) :
    tok (l.drop a) = if run wordU (l.drop a) ≤ 16 then some (1, run wordU (l.drop a)) else none := by
  conv => lhs; rw [drop_at l a h]
  unfold tok
  simp only [hl, if_true]
  rw [← drop_at l a h]
theorem tok_digit (l : List UInt8) (a : Nat) (h : a < l.length) (hl : letterU l[a] = false) (hd : digitU l[a] = true) :
    tok (l.drop a) = if numOk (l.drop a) (run digitU (l.drop a)) then some (2, run digitU (l.drop a)) else none := by
  conv => lhs; rw [drop_at l a h]
  unfold tok
  simp only [hl, hd, if_true, Bool.false_eq_true, if_false]
  rw [← drop_at l a h]
theorem tok_sym (l : List UInt8) (a : Nat) (h : a < l.length) (hl : letterU l[a] = false) (hd : digitU l[a] = false) :
    tok (l.drop a) = (sym (l.drop a)).map fun t => (3, t.length) := by
  conv => lhs; rw [drop_at l a h]
  unfold tok
  simp only [hl, hd, Bool.false_eq_true, if_false]
  rw [← drop_at l a h]

/-- the first symbol that begins a text, from an index of the table on -/
def symFrom (l : List UInt8) (i : Nat) : Option (List UInt8) := (refSyms.drop i).find? fun t => l.take t.length == t
theorem symFrom_zero (l : List UInt8) : symFrom l 0 = sym l := rfl
theorem symFrom_yes (l t : List UInt8) (a i : Nat) (h : refSyms[i]? = some t) (hb : begins l t a = true) : symFrom (l.drop a) i = some t := by
  obtain ⟨hi, ht⟩ := List.getElem?_eq_some_iff.1 h
  unfold symFrom
  rw [List.drop_eq_getElem_cons hi, ht]
  unfold begins at hb
  rw [List.find?_cons]
  simp only [hb]
theorem symFrom_no (l t : List UInt8) (a i : Nat) (h : refSyms[i]? = some t) (hb : begins l t a = false) : symFrom (l.drop a) i = symFrom (l.drop a) (i + 1) := by
  obtain ⟨hi, ht⟩ := List.getElem?_eq_some_iff.1 h
  unfold symFrom
  rw [List.drop_eq_getElem_cons hi, ht]
  unfold begins at hb
  rw [List.find?_cons]
  simp only [hb]
theorem symFrom_end (l : List UInt8) : symFrom l 27 = none := rfl
theorem refSyms_len : refSyms.length = 27 := rfl
theorem refSyms_short : ∀ t ∈ refSyms, t.length ≤ 3 ∧ 0 < t.length := by decide
theorem sym_len (l t : List UInt8) (h : sym l = some t) : l.take t.length = t ∧ t.length ≤ 3 ∧ 0 < t.length := by
  have h1 := List.find?_some h
  have h2 := List.mem_of_find?_eq_some h
  exact ⟨by simpa using h1, refSyms_short t h2⟩

theorem run_pos (p : UInt8 → Bool) (c : UInt8) (r : List UInt8) (h : p c = true) : 0 < run p (c :: r) := by rw [run_cons, if_pos h]; omega
theorem tok_pos (l : List UInt8) (kd n : Nat) (h : tok l = some (kd, n)) : 0 < n ∧ n ≤ l.length := by
  cases l with
  | nil => simp [tok] at h
  | cons c r =>
    unfold tok at h
    simp only at h
    split at h
    · rename_i hl
      split at h
      · simp only [Option.some.injEq, Prod.mk.injEq] at h
        rw [← h.2]
        exact ⟨run_pos _ _ _ (word_letter c hl), run_le _ _⟩
      · cases h
    · split at h
      · rename_i hd
        split at h
        · simp only [Option.some.injEq, Prod.mk.injEq] at h
          rw [← h.2]
          exact ⟨run_pos _ _ _ hd, run_le _ _⟩
        · cases h
      · cases hs : sym (c :: r) with
        | none => rw [hs] at h; cases h
        | some t =>
          rw [hs] at h
          simp only [Option.map_some, Option.some.injEq, Prod.mk.injEq] at h
          rw [← h.2]
          obtain ⟨h1, _, h3⟩ := sym_len _ _ hs
          refine ⟨h3, ?_⟩
          have := congrArg List.length h1
          rw [List.length_take] at this
          omega

/-- a token: its kind, its text, its offset -/
structure Tok where
  kind : Nat
  text : List UInt8
  off : Nat
deriving DecidableEq

/-- the tokens from a position on, then the error's number and its position; c tokens were read before -/
def go : Nat → List UInt8 → Nat → Nat → List Tok × Nat × Nat
  | 0, _, _, _ => ([], 0, 0)
  | _ + 1, [], _, _ => ([], 0, 0)
  | f + 1, l@(_ :: _), a, c =>
    if c = 1500 then ([], 2, a)
    else match tok l with
      | none => ([], 10, a)
      | some (kd, n) =>
        let g := skip false (l.drop n)
        let r := go f ((l.drop n).drop g) (a + n + g) (c + 1)
        (⟨kd, l.take n, a⟩ :: r.1, r.2)

/-- with an error there are no tokens -/
def fin (r : List Tok × Nat × Nat) : List Tok × Nat × Nat := if r.2.1 = 0 then (r.1, 0, 0) else ([], r.2.1, r.2.2)
/-- what chapter 1 says of Lex -/
def lex (l : List UInt8) : List Tok × Nat × Nat :=
  if 4000 < l.length then ([], 2, 0) else fin (go (l.length + 1) (l.drop (skip false l)) (skip false l) 0)

/-- what is still to come, behind the tokens that were read -/
def rest (f : Nat) (l : List UInt8) (k : Nat) (acc : List Tok) : List Tok × Nat × Nat :=
  fin (acc ++ (go f (l.drop k) k acc.length).1, (go f (l.drop k) k acc.length).2)

theorem lex_big (l : List UInt8) (h : 4000 < l.length) : lex l = ([], 2, 0) := by unfold lex; rw [if_pos h]
theorem lex_rest (l : List UInt8) (h : l.length ≤ 4000) : lex l = rest (l.length + 1) l (skip false l) [] := by
  unfold lex
  rw [if_neg (by omega)]
  rfl
theorem rest_end (f : Nat) (l : List UInt8) (k : Nat) (acc : List Tok) (h : l.length ≤ k) : rest f l k acc = (acc, 0, 0) := by
  unfold rest
  rw [List.drop_eq_nil_of_le h]
  cases f <;> simp [go, fin]
theorem rest_full (f : Nat) (l : List UInt8) (k : Nat) (acc : List Tok) (h : k < l.length) (hf : 0 < f) (hc : acc.length = 1500) : rest f l k acc = ([], 2, k) := by
  obtain ⟨f, rfl⟩ : ∃ g, f = g + 1 := ⟨f - 1, by omega⟩
  unfold rest
  rw [drop_at l k h, hc]
  simp [go, fin]
theorem rest_none (f : Nat) (l : List UInt8) (k : Nat) (acc : List Tok) (h : k < l.length) (hf : 0 < f) (hc : acc.length ≠ 1500) (ht : tok (l.drop k) = none) : rest f l k acc = ([], 10, k) := by
  obtain ⟨f, rfl⟩ : ∃ g, f = g + 1 := ⟨f - 1, by omega⟩
  have e : go (f + 1) (l.drop k) k acc.length = ([], 10, k) := by
    rw [drop_at l k h] at ht ⊢
    simp only [go, hc, if_false, ht]
  unfold rest
  rw [e]
  simp [fin]
theorem rest_some (f : Nat) (l : List UInt8) (k : Nat) (acc : List Tok) (kd n : Nat) (h : k < l.length) (hf : l.length - k < f) (hc : acc.length ≠ 1500) (ht : tok (l.drop k) = some (kd, n)) :
    0 < n ∧ k + n ≤ l.length ∧ l.length - (k + n + skip false (l.drop (k + n))) < f - 1 ∧ rest f l k acc = rest (f - 1) l (k + n + skip false (l.drop (k + n))) (acc ++ [⟨kd, (l.drop k).take n, k⟩]) := by
  obtain ⟨f, rfl⟩ : ∃ g, f = g + 1 := ⟨f - 1, by omega⟩
  obtain ⟨h1, h2⟩ := tok_pos _ _ _ ht
  rw [List.length_drop] at h2
  refine ⟨h1, by omega, by omega, ?_⟩
  unfold rest
  have e : (go (f + 1) (l.drop k) k acc.length) = (⟨kd, (l.drop k).take n, k⟩ :: (go f (l.drop (k + n + skip false (l.drop (k + n)))) (k + n + skip false (l.drop (k + n))) (acc.length + 1)).1, (go f (l.drop (k + n + skip false (l.drop (k + n)))) (k + n + skip false (l.drop (k + n))) (acc.length + 1)).2) := by
    conv => lhs; rw [drop_at l k h]
    rw [drop_at l k h] at ht
    simp only [go, hc, if_false, ht]
    rw [← drop_at l k h]
    simp only [List.drop_drop, Nat.add_assoc]
  rw [e]
  simp only [Nat.add_sub_cancel, List.length_append, List.length_singleton, List.append_assoc, List.singleton_append]

end Go.Proofs.YtpggfkdfchafhaaDoor.Lx
