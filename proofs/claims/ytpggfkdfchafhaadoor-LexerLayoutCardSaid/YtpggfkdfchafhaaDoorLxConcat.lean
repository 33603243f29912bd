/-
  Plain laws: a source, a line feed and a second source.
-/
import Derived.Test.YtpggfkdfchafhaaDoorLxMore
namespace Go.Proofs.YtpggfkdfchafhaaDoor.Lx

theorem run_app (p : UInt8 → Bool) (c : UInt8) (hc : p c = false) (l b : List UInt8) : run p (l ++ c :: b) = run p l := by
  induction l with
  | nil => rw [List.nil_append, run_cons, if_neg (by rw [hc]; exact Bool.false_ne_true)]; rfl
  | cons x r ih => rw [List.cons_append, run_cons, run_cons, ih]

theorem lu_app (c : UInt8) (h1 : letterU c = false) (h2 : ((c.toNat : Int) == 95) = false) (l b : List UInt8) : lu (l ++ c :: b) = lu l := by
  cases l with
  | nil => show (letterU c || _) = false; rw [h1, h2]; rfl
  | cons x r => rfl

theorem numOk_app (c : UInt8) (h1 : letterU c = false) (h2 : ((c.toNat : Int) == 95) = false) (x : UInt8) (r b : List UInt8) (n : Nat) (hn : n ≤ (x :: r).length) : numOk ((x :: r) ++ c :: b) n = numOk (x :: r) n := by
  unfold numOk
  rw [List.drop_append_of_le_length hn, lu_app c h1 h2]
  rfl

theorem prefix_app (t l b : List UInt8) (c : UInt8) (hc : c ∉ t) : ((l ++ c :: b).take t.length == t) = (l.take t.length == t) := by
  rw [Bool.eq_iff_iff, beq_iff_eq, beq_iff_eq]
  rcases Nat.le_total t.length l.length with h | h
  · rw [List.take_append_of_le_length h]
  · constructor
    · intro he
      rcases Nat.lt_or_ge l.length t.length with h' | h'
      · exfalso
        apply hc
        have : (l ++ c :: b)[l.length]? = some c := by rw [List.getElem?_append_right (Nat.le_refl _)]; simp
        have h3 : ((l ++ c :: b).take t.length)[l.length]? = some c := by rw [List.getElem?_take, if_pos h', this]
        rw [he] at h3
        exact List.mem_of_getElem? h3
      · rw [List.take_append_of_le_length h'] at he; exact he
    · intro he
      have hl := congrArg List.length he
      rw [List.length_take] at hl
      rw [List.take_append_of_le_length (by omega)]
      exact he

theorem find_app (ts : List (List UInt8)) (l b : List UInt8) (c : UInt8) (hc : ∀ t ∈ ts, c ∉ t) : ts.find? (fun t => (l ++ c :: b).take t.length == t) = ts.find? (fun t => l.take t.length == t) := by
  induction ts with
  | nil => rfl
  | cons x r ih =>
    rw [List.find?_cons, List.find?_cons, prefix_app x l b c (hc x (by simp)), ih (fun t ht => hc t (by simp [ht]))]

/-- a byte that ends every token: no letter, digit or underscore, and in no symbol -/
def Ends (c : UInt8) : Prop := wordU c = false ∧ digitU c = false ∧ letterU c = false ∧ ((c.toNat : Int) == 95) = false ∧ ∀ t ∈ refSyms, c ∉ t
theorem ends_feed : Ends 10 := ⟨by decide, by decide, by decide, by decide, by decide⟩

theorem tok_app (c : UInt8) (hc : Ends c) (x : UInt8) (r b : List UInt8) : tok ((x :: r) ++ c :: b) = tok (x :: r) := by
  obtain ⟨h1, h2, h3, h4, h5⟩ := hc
  have hw := run_app wordU c h1 (x :: r) b
  have hd := run_app digitU c h2 (x :: r) b
  have hs : sym ((x :: r) ++ c :: b) = sym (x :: r) := find_app refSyms (x :: r) b c h5
  have hn := numOk_app c h3 h4 x r b (run digitU (x :: r)) (run_le _ _)
  rw [List.cons_append] at *
  rw [tok_cons, tok_cons, hw, hd, hs, hn]

theorem skip_app (l b : List UInt8) : ∀ note, skip note (l ++ 10 :: b) = skip note l + (if skip note l = l.length then 1 + skip false b else 0) := by
  generalize hB : skip false b = B
  induction l with
  | nil =>
    intro n
    cases n <;> simp [skip, hB, show whiteU 10 = true from by decide]
  | cons c r ih =>
    intro n
    have hf := ih false
    have ht := ih true
    cases n with
    | true =>
      rw [List.cons_append]
      unfold skip
      simp only [if_true, List.length_cons]
      split
      · rw [hf]; split <;> split <;> omega
      · rw [ht]; split <;> split <;> omega
    | false =>
      rw [List.cons_append]
      unfold skip
      simp only [Bool.false_eq_true, if_false, List.length_cons]
      split
      · rw [hf]; split <;> split <;> omega
      · have hh : (c = 47 ∧ (r ++ 10 :: b).head? = some 47) ↔ (c = 47 ∧ r.head? = some 47) := by
          cases r with
          | nil => simp
          | cons d r' => simp
        by_cases h : c = 47 ∧ r.head? = some 47
        · rw [if_pos h, if_pos (hh.2 h), ht]; split <;> split <;> omega
        · rw [if_neg h, if_neg (fun h' => h (hh.1 h'))]; simp

/-- fuel beyond the length changes nothing -/
theorem go_fuel (f : Nat) : ∀ (f' : Nat) (l : List UInt8) (k c : Nat), l.length < f → l.length < f' → go f l k c = go f' l k c := by
  induction f with
  | zero => intro f' l k c h; omega
  | succ f ih =>
    intro f' l k c h h'
    obtain ⟨f', rfl⟩ : ∃ g, f' = g + 1 := ⟨f' - 1, by omega⟩
    cases l with
    | nil => rfl
    | cons x r =>
      unfold go
      split
      · rfl
      · cases ht : tok (x :: r) with
        | none => rfl
        | some kn =>
          have hp := tok_pos _ kn.1 kn.2 ht
          have hlen : ((List.drop kn.2 (x :: r)).drop (skip false (List.drop kn.2 (x :: r)))).length < (x :: r).length := by
            rw [List.length_drop, List.length_drop]
            simp only [List.length_cons] at hp ⊢
            omega
          simp only []
          rw [ih f' _ _ _ (by omega) (by omega)]

/-- the lexer from a token's beginning on, with enough fuel -/
def G (l : List UInt8) (k c : Nat) : List Tok × Nat × Nat := go (l.length + 1) l k c
theorem G_nil (k c : Nat) : G [] k c = ([], 0, 0) := rfl
theorem G_full (x : UInt8) (r : List UInt8) (k : Nat) : G (x :: r) k 1500 = ([], 2, k) := by unfold G; simp [go]
theorem G_none (x : UInt8) (r : List UInt8) (k c : Nat) (hc : c ≠ 1500) (h : tok (x :: r) = none) : G (x :: r) k c = ([], 10, k) := by
  unfold G; simp only [go, hc, if_false, h]
/-- what is left behind a token and its gap -/
def after (l : List UInt8) (n : Nat) : List UInt8 := (l.drop n).drop (skip false (l.drop n))
theorem after_len (l : List UInt8) (n : Nat) (h : 0 < n) (hl : 0 < l.length) : (after l n).length < l.length := by
  unfold after; rw [List.length_drop, List.length_drop]; omega
theorem G_some (x : UInt8) (r : List UInt8) (k c kd n : Nat) (hc : c ≠ 1500) (h : tok (x :: r) = some (kd, n)) :
    G (x :: r) k c = (⟨kd, (x :: r).take n, k⟩ :: (G (after (x :: r) n) (k + n + skip false ((x :: r).drop n)) (c + 1)).1, (G (after (x :: r) n) (k + n + skip false ((x :: r).drop n)) (c + 1)).2) := by
  have hp := tok_pos _ _ _ h
  have hl := after_len (x :: r) n hp.1 (by simp)
  unfold G
  conv => lhs; unfold go
  simp only [hc, if_false, h]
  have e := go_fuel (x :: r).length ((after (x :: r) n).length + 1) (after (x :: r) n) (k + n + skip false ((x :: r).drop n)) (c + 1) (by omega) (by omega)
  show (⟨kd, (x :: r).take n, k⟩ :: (go (x :: r).length (after (x :: r) n) (k + n + skip false ((x :: r).drop n)) (c + 1)).1, (go (x :: r).length (after (x :: r) n) (k + n + skip false ((x :: r).drop n)) (c + 1)).2) = _
  rw [e]

theorem lex_G (l : List UInt8) (h : l.length ≤ 4000) : lex l = fin (G (l.drop (skip false l)) (skip false l) 0) := by
  unfold lex G
  rw [if_neg (by omega), go_fuel (l.length + 1) ((l.drop (skip false l)).length + 1) _ _ _ (by rw [List.length_drop]; omega) (by omega)]

theorem G_err0 (N : Nat) : ∀ (l : List UInt8) (k c : Nat), l.length ≤ N → (G l k c).2.1 = 0 → (G l k c).2 = (0, 0) := by
  induction N with
  | zero => intro l k c hl h; cases l with | nil => rfl | cons x r => simp at hl
  | succ N ih =>
    intro l k c hl h
    cases l with
    | nil => rfl
    | cons x r =>
      by_cases hc : c = 1500
      · subst hc; rw [G_full] at h; simp at h
      · cases ht : tok (x :: r) with
        | none => rw [G_none x r k c hc ht] at h; simp at h
        | some kn =>
          rw [G_some x r k c kn.1 kn.2 hc ht] at h ⊢
          have hlen := after_len (x :: r) kn.2 (tok_pos _ kn.1 kn.2 ht).1 (by simp)
          exact ih _ _ _ (by omega) h

/-- behind the first source: its tokens, then the lexer goes on in the second -/
theorem G_app (b : List UInt8) (N : Nat) : ∀ (l : List UInt8) (k c : Nat) (ts : List Tok), l.length ≤ N → l ≠ [] → (G l k c).2.1 = 0 → (G l k c).1 = ts →
    G (l ++ 10 :: b) k c = (ts ++ (G (b.drop (skip false b)) (k + l.length + 1 + skip false b) (c + ts.length)).1, (G (b.drop (skip false b)) (k + l.length + 1 + skip false b) (c + ts.length)).2) := by
  induction N with
  | zero => intro l k c ts hl hne; exact absurd (List.eq_nil_of_length_eq_zero (by omega)) hne
  | succ N ih =>
    intro l k c ts hl hne h0 hts
    cases l with
    | nil => exact absurd rfl hne
    | cons x r =>
      by_cases hc : c = 1500
      · subst hc; rw [G_full] at h0; simp at h0
      · cases ht : tok (x :: r) with
        | none => rw [G_none x r k c hc ht] at h0; simp at h0
        | some kn =>
          obtain ⟨kd, n⟩ := kn
          have hp := tok_pos _ _ _ ht
          have ht' : tok (x :: (r ++ 10 :: b)) = some (kd, n) := by rw [← ht]; exact tok_app 10 ends_feed x r b
          rw [G_some x r k c kd n hc ht] at h0 hts
          rw [List.cons_append, G_some x (r ++ 10 :: b) k c kd n hc ht']
          have hlen := after_len (x :: r) n hp.1 (by simp)
          have hdrop : (x :: (r ++ 10 :: b)).drop n = (x :: r).drop n ++ 10 :: b := by
            rw [← List.cons_append, List.drop_append_of_le_length hp.2]
          have htake : (x :: (r ++ 10 :: b)).take n = (x :: r).take n := by
            rw [← List.cons_append, List.take_append_of_le_length hp.2]
          have hsk := skip_app ((x :: r).drop n) b false
          have hdl : ((x :: r).drop n).length = (x :: r).length - n := List.length_drop ..
          have hsl := skip_le ((x :: r).drop n) false
          rw [htake, hdrop]
          by_cases hg : skip false ((x :: r).drop n) = ((x :: r).drop n).length
          · rw [if_pos hg] at hsk
            have ha : after (x :: r) n = [] := by unfold after; exact List.drop_eq_nil_of_le (by omega)
            rw [ha, G_nil] at hts h0
            subst hts
            have ha' : after (x :: (r ++ 10 :: b)) n = b.drop (skip false b) := by
              unfold after
              rw [hdrop, hsk, hg, ← Nat.add_assoc, ← List.drop_drop, ← List.drop_drop, List.drop_left, List.drop_succ_cons, List.drop_zero]
            rw [ha', hsk]
            have e1 : k + n + (skip false ((x :: r).drop n) + (1 + skip false b)) = k + (x :: r).length + 1 + skip false b := by omega
            rw [e1]
            rfl
          · rw [if_neg hg, Nat.add_zero] at hsk
            have hne' : after (x :: r) n ≠ [] := by
              intro e
              have := congrArg List.length e
              unfold after at this
              rw [List.length_drop] at this
              simp only [List.length_nil] at this
              omega
            have ha' : after (x :: (r ++ 10 :: b)) n = after (x :: r) n ++ 10 :: b := by
              unfold after
              rw [hdrop, hsk, List.drop_append_of_le_length hsl]
            have hal : (after (x :: r) n).length = (x :: r).length - n - skip false ((x :: r).drop n) := by unfold after; rw [List.length_drop, List.length_drop]
            have hi := ih (after (x :: r) n) (k + n + skip false ((x :: r).drop n)) (c + 1) _ (by omega) hne' h0 rfl
            rw [ha', hsk, hi]
            have e1 : k + n + skip false ((x :: r).drop n) + (after (x :: r) n).length + 1 + skip false b = k + (x :: r).length + 1 + skip false b := by omega
            rw [e1, ← hts]
            simp only [List.length_cons, List.cons_append]
            rw [show c + 1 + (G (after (x :: r) n) (k + n + skip false ((x :: r).drop n)) (c + 1)).1.length = c + ((G (after (x :: r) n) (k + n + skip false ((x :: r).drop n)) (c + 1)).1.length + 1) from by omega]

/-- a token with a greater offset -/
def shiftBy (d : Nat) (t : Tok) : Tok := ⟨t.kind, t.text, t.off + d⟩

/-- greater offsets, and more tokens before -/
theorem G_shift (d e : Nat) (N : Nat) : ∀ (l : List UInt8) (k c : Nat), l.length ≤ N → c + e ≤ 1500 →
    ((G l (k + d) (c + e)).2.1 = 2 ∧ k + d ≤ (G l (k + d) (c + e)).2.2 ∧ ((G l k c).2.1 ≠ 0 ∨ 1500 < c + e + (G l k c).1.length)) ∨
    ((G l (k + d) (c + e)).1 = (G l k c).1.map (shiftBy d) ∧ (G l (k + d) (c + e)).2.1 = (G l k c).2.1 ∧ (G l (k + d) (c + e)).2.2 = (if (G l k c).2.1 = 0 then 0 else (G l k c).2.2 + d)) := by
  induction N with
  | zero => intro l k c hl hc; cases l with | nil => right; exact ⟨rfl, rfl, rfl⟩ | cons x r => simp at hl
  | succ N ih =>
    intro l k c hl hce
    cases l with
    | nil => right; exact ⟨rfl, rfl, rfl⟩
    | cons x r =>
      by_cases hf : c + e = 1500
      · left
        rw [hf, G_full]
        refine ⟨rfl, Nat.le_refl _, ?_⟩
        by_cases hc : c = 1500
        · left; rw [hc, G_full]; simp
        · cases ht : tok (x :: r) with
          | none => left; rw [G_none x r k c hc ht]; simp
          | some kn => right; rw [G_some x r k c kn.1 kn.2 hc ht]; simp only [List.length_cons]; omega
      · have hc : c ≠ 1500 := by omega
        cases ht : tok (x :: r) with
        | none =>
          right
          rw [G_none x r k c hc ht, G_none x r (k + d) (c + e) hf ht]
          exact ⟨rfl, rfl, rfl⟩
        | some kn =>
          obtain ⟨kd, n⟩ := kn
          have hp := tok_pos _ _ _ ht
          have hlen := after_len (x :: r) n hp.1 (by simp)
          have hi := ih (after (x :: r) n) (k + n + skip false ((x :: r).drop n)) (c + 1) (by omega) (by omega)
          rw [G_some x r k c kd n hc ht, G_some x r (k + d) (c + e) kd n hf ht]
          have e1 : k + d + n + skip false ((x :: r).drop n) = k + n + skip false ((x :: r).drop n) + d := by omega
          have e2 : c + e + 1 = c + 1 + e := by omega
          rw [e1, e2]
          rcases hi with ⟨h1, h2, h3⟩ | ⟨h1, h2, h3⟩
          · left
            refine ⟨h1, Nat.le_trans (show k + d ≤ k + n + skip false ((x :: r).drop n) + d by omega) h2, ?_⟩
            rcases h3 with h3 | h3
            · exact .inl h3
            · right; simp only [List.length_cons]; omega
          · right
            refine ⟨?_, h2, h3⟩
            simp only [List.map_cons, h1]
            rfl

theorem go_pos (l : List UInt8) (f : Nat) : ∀ (k c : Nat), k ≤ l.length → (go f (l.drop k) k c).2.2 ≤ l.length := by
  induction f with
  | zero => intro k c _; simp [go]
  | succ f ih =>
    intro k c hk
    rcases Nat.lt_or_ge k l.length with hlt | hge
    · by_cases hc : c = 1500
      · subst hc; rw [go_full l f k hlt]; exact hk
      · cases ht : tok (l.drop k) with
        | none => rw [go_stop l f k c hlt hc ht]; exact hk
        | some kn =>
          have hp := tok_pos _ kn.1 kn.2 ht
          rw [List.length_drop] at hp
          rw [go_step l f k c kn.1 kn.2 hlt hc ht]
          exact ih _ (c + 1) (next_le l k kn.2 (by omega))
    · rw [go_end l (f + 1) k c hge]; exact Nat.zero_le _
theorem lex_pos {l : List UInt8} {ts : List Tok} {k p : Nat} (h : lex l = (ts, k, p)) : p ≤ l.length := by
  unfold lex at h
  split at h
  · simp only [Prod.mk.injEq] at h; omega
  · unfold fin at h
    split at h
    · simp only [Prod.mk.injEq] at h; omega
    · simp only [Prod.mk.injEq] at h
      rw [← h.2.2]
      exact go_pos l _ _ 0 (skip_le l false)

/-- chapter 1's word on two sources with a line feed between them -/
theorem lex_concat {a b : List UInt8} {la lb : List Tok} {p fb pb : Nat} (ha : lex a = (la, 0, p)) (hb : lex b = (lb, fb, pb)) (hl : a.length + 1 + b.length ≤ 4000) :
    (∃ q, lex (a ++ 10 :: b) = ([], 2, q) ∧ a.length + 1 ≤ q ∧ (fb ≠ 0 ∨ 1500 < la.length + lb.length)) ∨
    (fb ≠ 0 ∧ lex (a ++ 10 :: b) = ([], fb, a.length + 1 + pb)) ∨
    (fb = 0 ∧ lex (a ++ 10 :: b) = (la ++ lb.map (shiftBy (a.length + 1)), 0, 0)) := by
  have hla := lex_len_of ha
  rw [lex_G a (by omega)] at ha
  rw [lex_G b (by omega)] at hb
  rw [lex_G (a ++ 10 :: b) (by rw [List.length_append, List.length_cons]; omega)]
  have hsa := skip_le a false
  have hga : (G (a.drop (skip false a)) (skip false a) 0).2.1 = 0 ∧ (G (a.drop (skip false a)) (skip false a) 0).1 = la := by
    unfold fin at ha
    split at ha
    · rename_i h; exact ⟨h, (Prod.mk.inj ha).1⟩
    · rename_i h; exact absurd (Prod.mk.inj (Prod.mk.inj ha).2).1 h
  -- the lexer's way through both
  have key : G ((a ++ 10 :: b).drop (skip false (a ++ 10 :: b))) (skip false (a ++ 10 :: b)) 0 = (la ++ (G (b.drop (skip false b)) (skip false b + (a.length + 1)) (0 + la.length)).1, (G (b.drop (skip false b)) (skip false b + (a.length + 1)) (0 + la.length)).2) := by
    have hsk := skip_app a b false
    by_cases hg : skip false a = a.length
    · rw [if_pos hg] at hsk
      have : a.drop (skip false a) = [] := List.drop_eq_nil_of_le (by omega)
      rw [this, G_nil] at hga
      have hn : la = [] := hga.2.symm
      subst hn
      rw [hsk, hg, ← Nat.add_assoc, ← List.drop_drop, ← List.drop_drop, List.drop_left, List.drop_succ_cons, List.drop_zero, List.nil_append]
      rw [show a.length + 1 + skip false b = skip false b + (a.length + 1) from by omega]
      rfl
    · rw [if_neg hg, Nat.add_zero] at hsk
      have hne : a.drop (skip false a) ≠ [] := by
        intro e
        have := congrArg List.length e
        rw [List.length_drop] at this
        simp only [List.length_nil] at this
        omega
      have := G_app b _ (a.drop (skip false a)) (skip false a) 0 la (Nat.le_refl _) hne hga.1 hga.2
      rw [hsk, List.drop_append_of_le_length hsa, this]
      have e1 : skip false a + (a.drop (skip false a)).length + 1 + skip false b = skip false b + (a.length + 1) := by rw [List.length_drop]; omega
      rw [e1]
  rw [key]
  have hsh := G_shift (a.length + 1) la.length _ (b.drop (skip false b)) (skip false b) 0 (Nat.le_refl _) (by omega)
  have hbd : lb = (if (G (b.drop (skip false b)) (skip false b) 0).2.1 = 0 then (G (b.drop (skip false b)) (skip false b) 0).1 else []) ∧ fb = (G (b.drop (skip false b)) (skip false b) 0).2.1 ∧ pb = (if (G (b.drop (skip false b)) (skip false b) 0).2.1 = 0 then 0 else (G (b.drop (skip false b)) (skip false b) 0).2.2) := by
    unfold fin at hb
    split at hb
    · rename_i h
      simp only [Prod.mk.injEq] at hb
      obtain ⟨rfl, rfl, rfl⟩ := hb
      simp [h]
    · rename_i h
      simp only [Prod.mk.injEq] at hb
      obtain ⟨rfl, rfl, rfl⟩ := hb
      simp [h]
  obtain ⟨hb1, hb2, hb3⟩ := hbd
  rcases hsh with ⟨h1, h2, h3⟩ | ⟨h1, h2, h3⟩
  · left
    refine ⟨_, by unfold fin; rw [if_neg (by rw [h1]; omega)]; show ([], _, _) = _; rw [h1], Nat.le_trans (by omega) h2, ?_⟩
    by_cases hf : fb = 0
    · right
      rw [hb1, ← hb2, if_pos hf]
      rcases h3 with h3 | h3
      · exact absurd (hb2 ▸ hf) h3
      · omega
    · exact .inl hf
  · right
    by_cases hf : fb = 0
    · right
      refine ⟨hf, ?_⟩
      have h0 : (G (b.drop (skip false b)) (skip false b) 0).2.1 = 0 := by rw [← hb2]; exact hf
      unfold fin
      rw [if_pos (by rw [h2, h0])]
      show (la ++ _, 0, 0) = _
      rw [h1, hb1, if_pos h0]
    · left
      refine ⟨hf, ?_⟩
      have h0 : (G (b.drop (skip false b)) (skip false b) 0).2.1 ≠ 0 := by rw [← hb2]; exact hf
      unfold fin
      rw [if_neg (by rw [h2]; exact h0)]
      show ([], _, _) = _
      rw [h2, h3, if_neg h0, ← hb2, hb3, if_neg h0]
      congr 2
      omega

end Go.Proofs.YtpggfkdfchafhaaDoor.Lx
