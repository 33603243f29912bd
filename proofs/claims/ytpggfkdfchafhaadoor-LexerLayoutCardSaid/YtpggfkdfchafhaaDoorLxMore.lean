/-
  Plain laws: what the lexer says of a part of a source.
-/
import Derived.Test.YtpggfkdfchafhaaDoorLxGaps
namespace Go.Proofs.YtpggfkdfchafhaaDoor.Lx

theorem run_take (p : UInt8 → Bool) (l : List UInt8) : ∀ m, run p l ≤ m → run p (l.take m) = run p l := by
  induction l with
  | nil => intro m _; simp
  | cons c r ih =>
    intro m h
    rw [run_cons] at h ⊢
    cases m with
    | zero =>
      split at h
      · omega
      · rename_i hp; simp [run, hp]
    | succ m =>
      rw [List.take_succ_cons, run_cons]
      split
      · rename_i hp
        rw [if_pos hp] at h
        rw [ih m (by omega)]
      · rfl

theorem lu_take (l : List UInt8) (m : Nat) (h : lu l = false) : lu (l.take m) = false := by
  cases l with
  | nil => simp [lu]
  | cons c r =>
    cases m with
    | zero => rfl
    | succ m => exact h

theorem numOk_take (l : List UInt8) (n m : Nat) (hn : 0 < n) (hm : n ≤ m) (h : numOk l n = true) : numOk (l.take m) n = true := by
  unfold numOk at h ⊢
  simp only [Bool.and_eq_true, Bool.not_eq_true'] at h ⊢
  obtain ⟨⟨h1, h2⟩, h3⟩ := h
  refine ⟨⟨h1, ?_⟩, ?_⟩
  · rw [show (l.take m).head? = l.head? from by
      cases l with
      | nil => simp
      | cons c r => obtain ⟨m', rfl⟩ : ∃ m', m = m' + 1 := ⟨m - 1, by omega⟩; rfl]
    exact h2
  · rw [List.drop_take]
    exact lu_take _ _ h3

theorem find_take (ts : List (List UInt8)) (l t : List UInt8) (m : Nat) (h : ts.find? (fun t => l.take t.length == t) = some t) (hm : t.length ≤ m) : ts.find? (fun t => (l.take m).take t.length == t) = some t := by
  induction ts with
  | nil => cases h
  | cons x r ih =>
    rw [List.find?_cons] at h ⊢
    cases hx : (l.take x.length == x) with
    | true =>
      rw [hx] at h
      simp only [Option.some.injEq] at h
      subst h
      have : ((l.take m).take x.length == x) = true := by
        rw [List.take_take, Nat.min_eq_left hm]; exact hx
      rw [this]
    | false =>
      rw [hx] at h
      have : ((l.take m).take x.length == x) = false := by
        apply beq_eq_false_iff_ne.2
        intro he
        apply beq_eq_false_iff_ne.1 hx
        have hl := congrArg List.length he
        rw [List.length_take, List.length_take] at hl
        rw [List.take_take, Nat.min_eq_left (by omega)] at he
        exact he
      rw [this]
      exact ih h

theorem tok_cons (c : UInt8) (r : List UInt8) : tok (c :: r) = if letterU c then (if run wordU (c :: r) ≤ 16 then some (1, run wordU (c :: r)) else none) else if digitU c then (if numOk (c :: r) (run digitU (c :: r)) then some (2, run digitU (c :: r)) else none) else (sym (c :: r)).map fun t => (3, t.length) := rfl

theorem tok_take (l : List UInt8) (kd n m : Nat) (h : tok l = some (kd, n)) (hm : n ≤ m) : tok (l.take m) = some (kd, n) := by
  have hp := tok_pos _ _ _ h
  cases l with
  | nil => simp [tok] at h
  | cons c r =>
    obtain ⟨m', rfl⟩ : ∃ m', m = m' + 1 := ⟨m - 1, by omega⟩
    have e : (c :: r).take (m' + 1) = c :: r.take m' := List.take_succ_cons
    rw [e, tok_cons]
    rw [tok_cons] at h
    split at h
    · rename_i hl
      rw [if_pos hl]
      split at h
      · rename_i h16
        simp only [Option.some.injEq, Prod.mk.injEq] at h
        obtain ⟨rfl, rfl⟩ := h
        have hr := run_take wordU (c :: r) (m' + 1) hm
        rw [e] at hr
        rw [hr, if_pos h16]
      · cases h
    · rename_i hl
      rw [if_neg hl]
      split at h
      · rename_i hd
        rw [if_pos hd]
        split at h
        · rename_i hok
          simp only [Option.some.injEq, Prod.mk.injEq] at h
          obtain ⟨rfl, rfl⟩ := h
          have hr := run_take digitU (c :: r) (m' + 1) hm
          have hn := numOk_take (c :: r) _ (m' + 1) hp.1 hm hok
          rw [e] at hr hn
          rw [hr, if_pos hn]
        · cases h
      · rename_i hd
        rw [if_neg hd]
        cases hs : sym (c :: r) with
        | none => rw [hs] at h; cases h
        | some t =>
          rw [hs] at h
          simp only [Option.map_some, Option.some.injEq, Prod.mk.injEq] at h
          obtain ⟨rfl, rfl⟩ := h
          have hf : sym ((c :: r).take (m' + 1)) = some t := find_take refSyms (c :: r) t (m' + 1) hs hm
          rw [e] at hf
          rw [hf]
          rfl

theorem skip_take (l : List UInt8) : ∀ (note : Bool) (m : Nat), skip note l ≤ m → skip note (l.take m) = skip note l := by
  induction l with
  | nil => intro n m _; simp
  | cons c r ih =>
    intro n m h
    cases m with
    | zero =>
      have h0 : skip n (c :: r) = 0 := by omega
      rw [h0]; simp [skip]
    | succ m =>
      rw [List.take_succ_cons]
      cases n with
      | true =>
        unfold skip at h ⊢
        simp only [if_true] at h ⊢
        split
        · rename_i hc; rw [if_pos hc] at h; rw [ih false m (by omega)]
        · rename_i hc; rw [if_neg hc] at h; rw [ih true m (by omega)]
      | false =>
        unfold skip at h ⊢
        simp only [Bool.false_eq_true, if_false] at h ⊢
        split
        · rename_i hw; rw [if_pos hw] at h; rw [ih false m (by omega)]
        · rename_i hw
          rw [if_neg hw] at h
          by_cases hh : c = 47 ∧ r.head? = some 47
          · rw [if_pos hh] at h
            have hr : ∃ r', r = 47 :: r' := by
              cases r with
              | nil => simp at hh
              | cons d r' => obtain ⟨_, h2⟩ := hh; simp at h2; exact ⟨r', by rw [h2]⟩
            obtain ⟨r', hr⟩ := hr
            have hpos : 0 < skip true r := by rw [hr]; simp [skip]; omega
            have hh' : c = 47 ∧ (r.take m).head? = some 47 := by
              refine ⟨hh.1, ?_⟩
              obtain ⟨m', rfl⟩ : ∃ m', m = m' + 1 := ⟨m - 1, by omega⟩
              rw [hr]; rfl
            rw [if_pos hh, if_pos hh', ih true m (by omega)]
          · have hh' : ¬ (c = 47 ∧ (r.take m).head? = some 47) := by
              rintro ⟨h1, h2⟩
              apply hh
              refine ⟨h1, ?_⟩
              cases r with
              | nil => simp at h2
              | cons d r' =>
                cases m with
                | zero => simp at h2
                | succ m' => simpa using h2
            rw [if_neg hh, if_neg hh']

theorem skip_idem (l : List UInt8) : ∀ note, skip false (l.drop (skip note l)) = 0 := by
  induction l with
  | nil => intro n; simp [skip]
  | cons c r ih =>
    intro n
    cases n with
    | true =>
      by_cases hc : c = 10
      · have e : skip true (c :: r) = skip false r + 1 := by simp [skip, hc]; omega
        rw [e, List.drop_succ_cons]; exact ih false
      · have e : skip true (c :: r) = skip true r + 1 := by simp [skip, hc]; omega
        rw [e, List.drop_succ_cons]; exact ih true
    | false =>
      cases hw : whiteU c
      · by_cases hh : c = 47 ∧ r.head? = some 47
        · have e : skip false (c :: r) = skip true r + 1 := by
            conv => lhs; unfold skip
            rw [if_neg Bool.false_ne_true, if_neg (by rw [hw]; exact Bool.false_ne_true), if_pos hh]; omega
          rw [e, List.drop_succ_cons]; exact ih true
        · have e : skip false (c :: r) = 0 := by
            conv => lhs; unfold skip
            simp only [Bool.false_eq_true, if_false, hw, hh]
          rw [e, List.drop_zero, e]
      · have e : skip false (c :: r) = skip false r + 1 := by
          conv => lhs; unfold skip
          simp only [Bool.false_eq_true, if_false, hw, if_true]; omega
        rw [e, List.drop_succ_cons]; exact ih false

theorem skip_at_zero (l : List UInt8) (e k : Nat) (h : k = e + skip false (l.drop e)) : skip false (l.drop k) = 0 := by
  subst h
  rw [← List.drop_drop]
  exact skip_idem _ false

/-- one step of the lexer -/
theorem go_step (l : List UInt8) (f k c kd n : Nat) (h : k < l.length) (hc : c ≠ 1500) (ht : tok (l.drop k) = some (kd, n)) :
    go (f + 1) (l.drop k) k c = (⟨kd, (l.drop k).take n, k⟩ :: (go f (l.drop (k + n + skip false (l.drop (k + n)))) (k + n + skip false (l.drop (k + n))) (c + 1)).1, (go f (l.drop (k + n + skip false (l.drop (k + n)))) (k + n + skip false (l.drop (k + n))) (c + 1)).2) := by
  conv => lhs; rw [drop_at l k h]
  rw [drop_at l k h] at ht
  simp only [go, hc, if_false, ht]
  rw [← drop_at l k h]
  simp only [List.drop_drop, Nat.add_assoc]
theorem go_stop (l : List UInt8) (f k c : Nat) (h : k < l.length) (hc : c ≠ 1500) (ht : tok (l.drop k) = none) : go (f + 1) (l.drop k) k c = ([], 10, k) := by
  rw [drop_at l k h] at ht ⊢
  simp only [go, hc, if_false, ht]
theorem go_full (l : List UInt8) (f k : Nat) (h : k < l.length) : go (f + 1) (l.drop k) k 1500 = ([], 2, k) := by
  rw [drop_at l k h]
  simp [go]
theorem go_end (l : List UInt8) (f k c : Nat) (h : l.length ≤ k) : go f (l.drop k) k c = ([], 0, 0) := by
  rw [List.drop_eq_nil_of_le h]
  cases f <;> rfl

theorem next_le (l : List UInt8) (k n : Nat) (h : k + n ≤ l.length) : k + n + skip false (l.drop (k + n)) ≤ l.length := by
  have h1 := skip_le (l.drop (k + n)) false
  rw [List.length_drop] at h1
  omega

/-- an error lies behind where the lexer stands, inside the source; there no token begins -/
theorem go_err (l : List UInt8) (f : Nat) : ∀ (k c p : Nat) (ts : List Tok), k ≤ l.length → skip false (l.drop k) = 0 → go f (l.drop k) k c = (ts, 10, p) → k ≤ p ∧ p < l.length ∧ tok (l.drop p) = none ∧ skip false (l.drop p) = 0 := by
  induction f with
  | zero => intro k c p ts _ _ h; simp [go] at h
  | succ f ih =>
    intro k c p ts hk h0 h
    rcases Nat.lt_or_ge k l.length with hlt | hge
    · by_cases hc : c = 1500
      · subst hc; rw [go_full l f k hlt] at h; simp at h
      · cases ht : tok (l.drop k) with
        | none =>
          rw [go_stop l f k c hlt hc ht] at h
          simp only [Prod.mk.injEq] at h
          obtain ⟨_, _, rfl⟩ := h
          exact ⟨Nat.le_refl _, hlt, ht, h0⟩
        | some kn =>
          obtain ⟨kd, n⟩ := kn
          have hp := tok_pos _ _ _ ht
          rw [List.length_drop] at hp
          rw [go_step l f k c kd n hlt hc ht] at h
          have hn := next_le l k n (by omega)
          obtain ⟨a, b⟩ := ih _ (c + 1) p _ hn (skip_at_zero l (k + n) _ rfl) (Prod.ext rfl (Prod.mk.inj h).2)
          exact ⟨by omega, b⟩
    · rw [go_end l (f + 1) k c hge] at h; simp at h

theorem go_before (l : List UInt8) (f : Nat) : ∀ (k c p f' : Nat) (ts : List Tok), k ≤ l.length → skip false (l.drop k) = 0 → go f (l.drop k) k c = (ts, 10, p) → p - k < f' → (go f' ((l.take p).drop k) k c).2.1 = 0 := by
  induction f with
  | zero => intro k c p f' ts _ _ h; simp [go] at h
  | succ f ih =>
    intro k c p f' ts hk h0 h hf
    obtain ⟨hkp, hpl, _, _⟩ := go_err l (f + 1) k c p ts hk h0 h
    have hpl' : (l.take p).length = p := by rw [List.length_take]; omega
    rcases Nat.lt_or_ge k p with hlt | hge
    · have hc : c ≠ 1500 := by
        intro hc; subst hc; rw [go_full l f k (by omega)] at h; simp at h
      cases ht : tok (l.drop k) with
      | none =>
        rw [go_stop l f k c (by omega) hc ht] at h
        simp only [Prod.mk.injEq] at h
        omega
      | some kn =>
        obtain ⟨kd, n⟩ := kn
        have hp := tok_pos _ _ _ ht
        rw [List.length_drop] at hp
        rw [go_step l f k c kd n (by omega) hc ht] at h
        have hn := next_le l k n (by omega)
        have h2 : go f (l.drop (k + n + skip false (l.drop (k + n)))) (k + n + skip false (l.drop (k + n))) (c + 1) = (_, 10, p) := Prod.ext rfl (Prod.mk.inj h).2
        obtain ⟨hkp', _⟩ := go_err l f _ (c + 1) p _ hn (skip_at_zero l (k + n) _ rfl) h2
        obtain ⟨f', rfl⟩ : ∃ g, f' = g + 1 := ⟨f' - 1, by omega⟩
        have ht' : tok ((l.take p).drop k) = some (kd, n) := by
          rw [List.drop_take]; exact tok_take _ _ _ _ ht (by omega)
        have hs' : skip false ((l.take p).drop (k + n)) = skip false (l.drop (k + n)) := by
          rw [List.drop_take]; exact skip_take _ _ _ (by omega)
        rw [go_step (l.take p) f' k c kd n (by omega) hc ht', hs']
        exact ih _ (c + 1) p f' _ hn (skip_at_zero l (k + n) _ rfl) h2 (by omega)
    · rw [go_end (l.take p) f' k c (by omega)]

/-- what chapter 1 says of the parts of a source at an error -/
theorem lex_err {l : List UInt8} {ts : List Tok} {p : Nat} (h : lex l = (ts, 10, p)) : p < l.length ∧ (lex (l.take p)).2.1 = 0 ∧ lex (l.drop p) = ([], 10, 0) := by
  unfold lex at h
  split at h
  · simp at h
  · rename_i hl
    have hg : ∃ rs, go (l.length + 1) (l.drop (skip false l)) (skip false l) 0 = (rs, 10, p) := by
      unfold fin at h
      split at h
      · simp at h
      · simp only [Prod.mk.injEq] at h
        exact ⟨_, Prod.ext rfl (Prod.ext h.2.1 h.2.2)⟩
    obtain ⟨rs, hg⟩ := hg
    have hs := skip_le l false
    have h0 : skip false (l.drop (skip false l)) = 0 := skip_idem l false
    obtain ⟨h1, h2, h3, h4⟩ := go_err l _ _ 0 p rs hs h0 hg
    have hlp : (l.take p).length = p := by rw [List.length_take]; omega
    refine ⟨h2, ?_, ?_⟩
    · unfold lex
      rw [if_neg (by omega), hlp, skip_take l false p h1]
      have hb := go_before l _ _ 0 p (p + 1) rs hs h0 hg (by omega)
      unfold fin
      rw [if_pos hb]
    · unfold lex
      rw [if_neg (by rw [List.length_drop]; omega), h4, List.drop_zero]
      have := go_stop (l.drop p) ((l.drop p).length) 0 0 (by rw [List.length_drop]; omega) (by omega) (by rw [List.drop_zero]; exact h3)
      rw [List.drop_zero] at this
      rw [this]
      rfl

/-- every token of a source is the one that begins at its offset -/
theorem go_toks (l : List UInt8) (f : Nat) : ∀ (k c : Nat), k ≤ l.length → ∀ t ∈ (go f (l.drop k) k c).1, tok (l.drop t.off) = some (t.kind, t.text.length) ∧ t.text = (l.drop t.off).take t.text.length := by
  induction f with
  | zero => intro k c _ t ht; simp [go] at ht
  | succ f ih =>
    intro k c hk t ht
    rcases Nat.lt_or_ge k l.length with hlt | hge
    · by_cases hc : c = 1500
      · subst hc; rw [go_full l f k hlt] at ht; simp at ht
      · cases htk : tok (l.drop k) with
        | none => rw [go_stop l f k c hlt hc htk] at ht; simp at ht
        | some kn =>
          obtain ⟨kd, n⟩ := kn
          have hp := tok_pos _ _ _ htk
          rw [List.length_drop] at hp
          rw [go_step l f k c kd n hlt hc htk] at ht
          rcases List.mem_cons.1 ht with rfl | ht
          · have hn := tok_take_len l k n (by omega)
            exact ⟨by rw [hn]; exact htk, by rw [hn]⟩
          · exact ih _ (c + 1) (next_le l k n (by omega)) t ht
    · rw [go_end l (f + 1) k c hge] at ht; simp at ht
theorem lex_toks {l : List UInt8} {ts : List Tok} {k p : Nat} (h : lex l = (ts, k, p)) : ∀ t ∈ ts, tok (l.drop t.off) = some (t.kind, t.text.length) ∧ t.text = (l.drop t.off).take t.text.length := by
  intro t ht
  unfold lex at h
  split at h
  · simp only [Prod.mk.injEq] at h; rw [← h.1] at ht; simp at ht
  · unfold fin at h
    split at h
    · simp only [Prod.mk.injEq] at h
      rw [← h.1] at ht
      exact go_toks l _ _ 0 (skip_le l false) t ht
    · simp only [Prod.mk.injEq] at h; rw [← h.1] at ht; simp at ht

/-- a token's text with the next byte is not one token -/
theorem lex_longest {l : List UInt8} {ts : List Tok} {p : Nat} (h : lex l = (ts, 0, p)) (t : Tok) (ht : t ∈ ts) (t' : Tok) (p' : Nat) (hm : lex ((l.drop t.off).take (t.text.length + 1)) = ([t'], 0, p')) (hlen : t.off + t.text.length < l.length) : t'.text ≠ (l.drop t.off).take (t.text.length + 1) := by
  intro he
  obtain ⟨h1, _⟩ := lex_toks h t ht
  obtain ⟨c1, c2, c3, _, _⟩ := lex_chain hm
  have hml : ((l.drop t.off).take (t.text.length + 1)).length = t.text.length + 1 := by rw [List.length_take, List.length_drop]; omega
  have h2 := (lex_toks hm t' (by simp)).1
  have hl := congrArg List.length he
  rw [hml] at hl c3
  have h0 : t'.off = 0 := by omega
  rw [h0, List.drop_zero, tok_take _ _ _ _ h1 (by omega)] at h2
  simp only [Option.some.injEq, Prod.mk.injEq] at h2
  omega

end Go.Proofs.YtpggfkdfchafhaaDoor.Lx
