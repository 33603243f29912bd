/-
  A wrong item before an item of a source or at its end: lexing and parsing.
-/
import Derived.Test.YtdiogcedlppioaaGreatDoorQRcf
import Derived.Test.YtdiogcedlppioaaGreatDoorQCca
set_option linter.unusedVariables false
set_option linter.unusedSimpArgs false
namespace Go.Proofs.YtdiogcedlppioaaGreatDoor.Lx

theorem tok_app63 (x : UInt8) (r b : List UInt8) : tok ((x :: r) ++ 63 :: b) = tok (x :: r) := by
  have hw := run_app wordU 63 (by decide) (x :: r) b
  have hd := run_app digitU 63 (by decide) (x :: r) b
  have hp : ∀ t ∈ refSyms, (((x :: r) ++ 63 :: b).take t.length == t) = ((x :: r).take t.length == t) := by
    intro t ht
    by_cases h63 : (63 : UInt8) ∈ t
    · have ht1 : t = [63] := by
        have hall : refSyms.all (fun t => !(t.contains 63) || t == [63]) = true := by decide
        rw [List.all_eq_true] at hall
        have := hall t ht
        simp only [Bool.or_eq_true, Bool.not_eq_true', beq_iff_eq] at this
        rcases this with h | h
        · rw [List.contains_eq_mem] at h; simp at h; exact absurd h63 h
        · exact h
      subst ht1
      rfl
    · exact prefix_app t (x :: r) b 63 h63
  have hs : sym ((x :: r) ++ 63 :: b) = sym (x :: r) := by
    unfold sym
    have : ∀ l : List (List UInt8), (∀ t ∈ l, (((x :: r) ++ 63 :: b).take t.length == t) = ((x :: r).take t.length == t)) → l.find? (fun t => ((x :: r) ++ 63 :: b).take t.length == t) = l.find? (fun t => (x :: r).take t.length == t) := by
      intro l
      induction l with
      | nil => intro _; rfl
      | cons u q ih =>
        intro h
        rw [List.find?_cons, List.find?_cons, h u (by simp), ih (fun t ht => h t (by simp [ht]))]
    exact this refSyms hp
  have hn := numOk_app 63 (by decide) (by decide) x r b (run digitU (x :: r)) (run_le _ _)
  rw [List.cons_append] at *
  rw [tok_cons, tok_cons, hw, hd, hs, hn]
theorem skip_true_pos (c : UInt8) (r : List UInt8) : 1 ≤ skip true (c :: r) := by
  unfold skip
  simp only [if_true]
  split <;> omega
theorem skip_ins (b : List UInt8) : ∀ (l : List UInt8) (note : Bool) (j : Nat), skip note l ≤ j → skip note l < l.length → skip note (l.take j ++ 63 :: b) = skip note l
  | [], note, j, h1, h2 => by simp at h2
  | c :: r, true, 0, h1, h2 => by have := skip_true_pos c r; omega
  | c :: r, false, 0, h1, h2 => by
    have h0 : skip false (c :: r) = 0 := by omega
    rw [h0, List.take_zero, List.nil_append]
    unfold skip
    rw [if_neg Bool.false_ne_true, if_neg (by decide), if_neg (by simp)]
  | c :: r, true, j + 1, h1, h2 => by
    rw [List.take_succ_cons, List.cons_append]
    unfold skip at h1 h2 ⊢
    simp only [if_true] at h1 h2 ⊢
    simp only [List.length_cons] at h2
    by_cases hc : c = 10
    · rw [if_pos hc] at h1 h2
      rw [if_pos hc, if_pos hc, skip_ins b r false j (by omega) (by omega)]
    · rw [if_neg hc] at h1 h2
      rw [if_neg hc, if_neg hc, skip_ins b r true j (by omega) (by omega)]
  | c :: r, false, j + 1, h1, h2 => by
    rw [List.take_succ_cons, List.cons_append]
    unfold skip at h1 h2 ⊢
    simp only [Bool.false_eq_true, if_false] at h1 h2 ⊢
    simp only [List.length_cons] at h2
    by_cases hw : whiteU c = true
    · rw [if_pos hw] at h1 h2
      rw [if_pos hw, if_pos hw, skip_ins b r false j (by omega) (by omega)]
    · rw [if_neg hw] at h1 h2
      rw [if_neg hw, if_neg hw]
      by_cases hc : c = 47 ∧ r.head? = some 47
      · rw [if_pos hc] at h1 h2
        rw [if_pos hc]
        cases r with
        | nil => simp at hc
        | cons d q =>
          have := skip_true_pos d q
          obtain ⟨j, rfl⟩ : ∃ i, j = i + 1 := ⟨j - 1, by omega⟩
          have hd : d = 47 := by simpa using hc.2
          rw [if_pos ⟨hc.1, by rw [List.take_succ_cons]; simp [hd]⟩, skip_ins b (d :: q) true (j + 1) (by omega) (by omega)]
      · rw [if_neg hc] at h1 h2
        rw [if_neg hc]
        refine if_neg (fun h => hc ⟨h.1, ?_⟩)
        cases r with
        | nil => simp at h
        | cons d q =>
          cases j with
          | zero => simp at h
          | succ j => rw [List.take_succ_cons] at h; simpa using h.2
/-- the lexer up to a token's beginning, where something else follows that begins with a question mark -/
theorem go_cut (l b : List UInt8) (f : Nat) : ∀ (k c q m f' : Nat) (ts : List Tok) (t : Tok), k ≤ l.length → go f (l.drop k) k c = (ts, 0, q) → ts[m]? = some t → l.length - k < f → t.off + (63 :: b).length - k < f' →
    k ≤ t.off ∧ ∃ g, t.off + (63 :: b).length - t.off < g ∧ go f' ((l.take t.off ++ 63 :: b).drop k) k c = (ts.take m ++ (go g (63 :: b) t.off (c + m)).1, (go g (63 :: b) t.off (c + m)).2) := by
  induction f with
  | zero => intro k c q m f' ts t _ _ _ h; omega
  | succ f ih =>
    intro k c q m f' ts t hk h hm hf hf'
    rcases Nat.lt_or_ge k l.length with hlt | hge
    · have hc : c ≠ 1500 := by
        intro hc; subst hc; rw [go_full l f k (by omega)] at h; simp at h
      cases ht : tok (l.drop k) with
      | none =>
        rw [go_stop l f k c (by omega) hc ht] at h
        simp only [Prod.mk.injEq] at h
        omega
      | some kn =>
        obtain ⟨kd, n⟩ := kn
        have hp := tok_pos _ _ _ ht
        rw [List.length_drop] at hp
        rw [go_step l f k c kd n (by omega) hc ht] at h
        have hn := next_le l k n (by omega)
        have hlen := tok_take_len l k n (by omega)
        have e1 := (Prod.mk.inj h).1
        have e2 := (Prod.mk.inj h).2
        obtain ⟨rs, hrs⟩ : ∃ rs, go f (l.drop (k + n + skip false (l.drop (k + n)))) (k + n + skip false (l.drop (k + n))) (c + 1) = (rs, 0, q) := ⟨_, Prod.ext rfl e2⟩
        rw [hrs] at e1
        subst e1
        cases m with
        | zero =>
          simp only [List.getElem?_cons_zero, Option.some.injEq] at hm
          subst hm
          simp only at hf' ⊢
          refine ⟨Nat.le_refl _, f', by omega, ?_⟩
          rw [show (l.take k ++ 63 :: b).drop k = 63 :: b by rw [List.drop_append_of_le_length (by rw [List.length_take]; omega), List.drop_of_length_le (by rw [List.length_take]; omega)]; rfl]
          simp
        | succ m =>
          have hm : rs[m]? = some t := by simpa using hm
          obtain ⟨hb1, _⟩ := ih _ (c + 1) q m (t.off + (63 :: b).length + 1) rs t hn hrs hm (by omega) (by omega)
          have htl : t.off < l.length := by
            have := (go_prefix l f _ (c + 1) q m (t.off + t.text.length + 1) rs t hn hrs hm (by omega) (by omega)).2.1
            have h3 := go_toks l f _ (c + 1) hn
            rw [hrs] at h3
            have h4 := tok_pos _ _ _ (h3 t (List.mem_of_getElem? hm)).1
            omega
          obtain ⟨f', rfl⟩ : ∃ g, f' = g + 1 := ⟨f' - 1, by omega⟩
          obtain ⟨_, g, hg0, hg⟩ := ih _ (c + 1) q m f' rs t hn hrs hm (by omega) (by omega)
          have hL : (l.take t.off ++ 63 :: b).length = t.off + (63 :: b).length := by rw [List.length_append, List.length_take, Nat.min_eq_left (by omega)]
          have hdrop : ∀ i, i ≤ t.off → (l.take t.off ++ 63 :: b).drop i = (l.drop i).take (t.off - i) ++ 63 :: b := by
            intro i hi
            rw [List.drop_append_of_le_length (by rw [List.length_take]; omega), List.drop_take]
          have hne : ∃ x r, (l.drop k).take (t.off - k) = x :: r := by
            cases hx : (l.drop k).take (t.off - k) with
            | nil =>
              have := congrArg List.length hx
              rw [List.length_take, List.length_drop] at this
              simp at this
              omega
            | cons x r => exact ⟨x, r, rfl⟩
          obtain ⟨x, r, hxr⟩ := hne
          have ht' : tok ((l.take t.off ++ 63 :: b).drop k) = some (kd, n) := by
            rw [hdrop k (by omega), hxr, tok_app63, ← hxr]
            exact tok_take _ _ _ _ ht (by omega)
          have hs' : skip false ((l.take t.off ++ 63 :: b).drop (k + n)) = skip false (l.drop (k + n)) := by
            rw [hdrop (k + n) (by omega)]
            exact skip_ins b _ false _ (by omega) (by rw [List.length_drop]; omega)
          refine ⟨by omega, g, hg0, ?_⟩
          rw [go_step (l.take t.off ++ 63 :: b) f' k c kd n (by omega) hc ht', hs', hg]
          have htk : ((l.take t.off ++ 63 :: b).drop k).take n = (l.drop k).take n := by
            rw [hdrop k (by omega), List.take_append_of_le_length (by rw [List.length_take, List.length_drop]; omega), List.take_take, Nat.min_eq_left (by omega)]
          rw [htk, List.take_succ_cons, List.cons_append, show c + 1 + m = c + (m + 1) by omega]
    · rw [go_end l (f + 1) k c (by omega)] at h
      have := (Prod.mk.inj h).1
      subst this
      simp at hm
/-- the lexer from a token on -/
theorem go_at (l : List UInt8) (f : Nat) : ∀ (k c q m : Nat) (ts : List Tok) (t : Tok), k ≤ l.length → go f (l.drop k) k c = (ts, 0, q) → ts[m]? = some t → l.length - k < f →
    ∃ g, (l.drop t.off).length < g ∧ go g (l.drop t.off) t.off (c + m) = (ts.drop m, 0, q) := by
  induction f with
  | zero => intro k c q m ts t _ _ _ h; omega
  | succ f ih =>
    intro k c q m ts t hk h hm hf
    rcases Nat.lt_or_ge k l.length with hlt | hge
    · have hc : c ≠ 1500 := by
        intro hc; subst hc; rw [go_full l f k (by omega)] at h; simp at h
      cases ht : tok (l.drop k) with
      | none =>
        rw [go_stop l f k c (by omega) hc ht] at h
        simp only [Prod.mk.injEq] at h
        omega
      | some kn =>
        obtain ⟨kd, n⟩ := kn
        have hp := tok_pos _ _ _ ht
        rw [List.length_drop] at hp
        have h0 := h
        rw [go_step l f k c kd n (by omega) hc ht] at h
        have hn := next_le l k n (by omega)
        have e1 := (Prod.mk.inj h).1
        have e2 := (Prod.mk.inj h).2
        obtain ⟨rs, hrs⟩ : ∃ rs, go f (l.drop (k + n + skip false (l.drop (k + n)))) (k + n + skip false (l.drop (k + n))) (c + 1) = (rs, 0, q) := ⟨_, Prod.ext rfl e2⟩
        rw [hrs] at e1
        cases m with
        | zero =>
          subst e1
          simp only [List.getElem?_cons_zero, Option.some.injEq] at hm
          subst hm
          exact ⟨f + 1, by rw [List.length_drop]; simp only; omega, h0⟩
        | succ m =>
          subst e1
          obtain ⟨g, g1, g2⟩ := ih _ (c + 1) q m rs t hn hrs (by simpa using hm) (by omega)
          exact ⟨g, g1, by rw [show c + (m + 1) = c + 1 + m by omega, g2, List.drop_succ_cons]⟩
    · rw [go_end l (f + 1) k c (by omega)] at h
      have := (Prod.mk.inj h).1
      subst this
      simp at hm
theorem go_fin {f : Nat} {l : List UInt8} {k c : Nat} (hf : l.length < f) : go f l k c = G l k c := go_fuel f (l.length + 1) l k c hf (by omega)
/-- the tokens of a source into which a wrong item is put before a token -/
theorem lex_insert {l : List UInt8} {ts us : List Tok} {p q : Nat} (h : lex l = (ts, 0, p)) {m : Nat} {t : Tok} (hm : ts[m]? = some t) (hu : lex (l.take t.off ++ ([63, 59, 32] ++ l.drop t.off)) = (us, 0, q)) :
    us = ts.take m ++ (⟨3, [63], t.off⟩ :: ⟨3, [59], t.off + 1⟩ :: (ts.drop m).map (shiftBy 3)) := by
  obtain ⟨_, hl, q0, hg⟩ := lex_go h
  have hs := skip_le l false
  have hb : ∃ b, b = 59 :: 32 :: l.drop t.off := ⟨_, rfl⟩
  obtain ⟨b, hb⟩ := hb
  have he : l.take t.off ++ ([63, 59, 32] ++ l.drop t.off) = l.take t.off ++ 63 :: b := by rw [hb]; rfl
  rw [he] at hu
  obtain ⟨_, hl2, q1, hg2⟩ := lex_go hu
  obtain ⟨c1, g, c2, c3⟩ := go_cut l b _ (skip false l) 0 q0 m ((l.take t.off ++ 63 :: b).length + 1) ts t hs hg hm (by omega) (by
    rw [List.length_append, List.length_take]
    have := (lex_prefix h hm).1
    omega)
  have htok := (lex_toks h t (List.mem_of_getElem? hm)).1
  have hpos := tok_pos _ _ _ htok
  rw [List.length_drop] at hpos
  have hsk : skip false (l.take t.off ++ 63 :: b) = skip false l := skip_ins b l false _ c1 (by omega)
  rw [hsk, c3] at hg2
  have e1 := (Prod.mk.inj hg2).1
  have e2 := (Prod.mk.inj hg2).2
  rw [go_fin (by omega)] at e1 e2
  have hml : m < ts.length := (List.getElem?_eq_some_iff.1 hm).1
  have hts := lex_len_of h
  obtain ⟨g3, g4, g5⟩ := go_at l _ (skip false l) 0 q0 m ts t hs hg hm (by omega)
  rw [go_fin g4, Nat.zero_add] at g5
  rw [Nat.zero_add, hb] at e1 e2
  have hz : skip false (l.drop t.off) = 0 := by
    cases hx : l.drop t.off with
    | nil => rw [hx] at htok; simp [tok] at htok
    | cons x r =>
      rw [hx] at htok
      have := skip_first x r [] _ _ htok
      rwa [List.append_nil] at this
  have t1 : tok (63 :: 59 :: 32 :: l.drop t.off) = some (3, 1) := by rfl
  have t2 : tok (59 :: 32 :: l.drop t.off) = some (3, 1) := by rfl
  have s1 : skip false (59 :: 32 :: l.drop t.off) = 0 := by rfl
  have s2 : skip false (32 :: l.drop t.off) = 1 := by
    rw [show skip false (32 :: l.drop t.off) = 1 + skip false (l.drop t.off) from rfl, hz]
  have a1 : after (63 :: 59 :: 32 :: l.drop t.off) 1 = 59 :: 32 :: l.drop t.off := by
    unfold after
    rw [show (63 :: 59 :: 32 :: l.drop t.off).drop 1 = 59 :: 32 :: l.drop t.off from rfl, s1]
    rfl
  have a2 : after (59 :: 32 :: l.drop t.off) 1 = l.drop t.off := by
    unfold after
    rw [show (59 :: 32 :: l.drop t.off).drop 1 = 32 :: l.drop t.off from rfl, s2]
    rfl
  rw [G_some 63 _ t.off m 3 1 (by omega) t1, a1, show (63 :: 59 :: 32 :: l.drop t.off).drop 1 = 59 :: 32 :: l.drop t.off from rfl, s1] at e1 e2
  simp only at e1 e2
  by_cases hm1 : m + 1 = 1500
  · rw [hm1, G_full] at e2
    cases e2
  rw [G_some 59 _ _ (m + 1) 3 1 hm1 t2, a2, show (59 :: 32 :: l.drop t.off).drop 1 = 32 :: l.drop t.off from rfl, s2] at e1 e2
  simp only at e1 e2
  rw [show t.off + 1 + 0 + 1 + 1 = t.off + 3 by omega, show m + 1 + 1 = m + 2 by omega] at e1 e2
  rcases G_shift 3 2 _ (l.drop t.off) t.off m (Nat.le_refl _) (by omega) with ⟨h1, _⟩ | ⟨h1, _⟩
  · have := congrArg Prod.fst e2
    rw [h1] at this
    cases this
  · rw [h1, g5] at e1
    rw [← e1]
    rfl
end Go.Proofs.YtdiogcedlppioaaGreatDoor.Lx

