/-
  Plain laws: tokens and gaps cover a source.
-/
import Derived.Test.YtpggfkdfchafhaaDoorLxLen
import Derived.Test.YtpggfkdfchafhaaDoorLxSpecc
namespace Go.Proofs.YtpggfkdfchafhaaDoor.Lx

/-- does a text consist of gaps? -/
def blank (note : Bool) : List UInt8 → Bool
  | [] => true
  | c :: r =>
    if note then blank (other c) r
    else if c = 47 ∧ r.head? = some 47 then blank true r
    else if whiteU c then blank false r
    else false

theorem blank_take (l : List UInt8) : ∀ note, blank note (l.take (skip note l)) = true := by
  induction l with
  | nil => intro n; simp [skip, blank]
  | cons c r ih =>
    intro n
    cases n with
    | true =>
      by_cases hc : c = 10
      · subst hc
        simp only [skip, if_true, Nat.add_comm 1, List.take_succ_cons, blank]
        rw [show other 10 = false from by decide]
        exact ih false
      · simp only [skip, hc, if_true, if_false, Nat.add_comm 1, List.take_succ_cons, blank]
        rw [(other_iff c).2 hc]
        exact ih true
    | false =>
      simp only [skip, Bool.false_eq_true, if_false]
      cases hw : whiteU c
      · simp only [Bool.false_eq_true, if_false]
        split
        · rename_i h
          obtain ⟨h1, h2⟩ := h
          have hr : ∃ r', r = 47 :: r' := by
            cases r with
            | nil => simp at h2
            | cons d r' => simp at h2; exact ⟨r', by rw [h2]⟩
          obtain ⟨r', hr⟩ := hr
          have hpos : 0 < skip true r := by rw [hr]; simp [skip]; omega
          rw [Nat.add_comm 1, List.take_succ_cons]
          have hh : (r.take (skip true r)).head? = some 47 := by
            rw [hr] at hpos ⊢
            obtain ⟨m, hm⟩ : ∃ m, skip true (47 :: r') = m + 1 := ⟨skip true (47 :: r') - 1, by omega⟩
            rw [hm, List.take_succ_cons]; rfl
          simp only [blank, Bool.false_eq_true, if_false, h1, hh, and_self, if_true]
          exact ih true
        · simp [blank]
      · simp only [if_true, Nat.add_comm 1, List.take_succ_cons, blank, Bool.false_eq_true, if_false]
        have hc : ¬ c = 47 := by intro e; rw [e] at hw; exact absurd hw (by decide)
        simp only [hc, false_and, if_false, hw, if_true]
        exact ih false

theorem blank_note (l : List UInt8) (k : Nat) (h : k < l.length) (hb : begins l [47, 47] k = true) (hk : blank false (l.drop k) = true) : blank true (l.drop (k + 1)) = true := by
  obtain ⟨h1, h2⟩ := (begins2_iff l k h).1 hb
  rw [drop_at l k h] at hk
  simp only [blank, Bool.false_eq_true, if_false, h1, h2, and_self, if_true] at hk
  exact hk
theorem blank_white (l : List UInt8) (k : Nat) (h : k < l.length) (hb : begins l [47, 47] k = false) (hk : blank false (l.drop k) = true) : whiteU l[k] = true ∧ blank false (l.drop (k + 1)) = true := by
  have hi := begins2_iff l k h
  rw [hb] at hi
  have hn : ¬ (l[k] = 47 ∧ (l.drop (k + 1)).head? = some 47) := fun hh => absurd (hi.2 hh) Bool.false_ne_true
  rw [drop_at l k h] at hk
  simp only [blank, Bool.false_eq_true, if_false, hn] at hk
  split at hk
  · rename_i hw; exact ⟨hw, hk⟩
  · cases hk

/-- the tokens of a source from an offset on: each behind a gap, the rest a gap -/
def Chain (l : List UInt8) : Nat → List Tok → Prop
  | e, [] => e + skip false (l.drop e) = l.length
  | e, t :: r => t.off = e + skip false (l.drop e) ∧ 0 < t.text.length ∧ t.off + t.text.length ≤ l.length ∧ t.text = (l.drop t.off).take t.text.length ∧ Chain l (t.off + t.text.length) r

theorem tok_take_len (l : List UInt8) (k n : Nat) (h : k + n ≤ l.length) : ((l.drop k).take n).length = n := by rw [List.length_take, List.length_drop]; omega

theorem go_chain (l : List UInt8) (f : Nat) : ∀ (e k c : Nat) (ts : List Tok) (p : Nat), k = e + skip false (l.drop e) → k ≤ l.length → l.length - k < f → go f (l.drop k) k c = (ts, 0, p) → Chain l e ts := by
  induction f with
  | zero => intro e k c ts p _ _ h; omega
  | succ f ih =>
    intro e k c ts p hk hl hf h
    rcases Nat.lt_or_ge k l.length with hlt | hge
    · have ht0 : l.drop k = l[k] :: l.drop (k + 1) := drop_at l k hlt
      rw [ht0] at h
      unfold go at h
      rw [← ht0] at h
      split at h
      · simp at h
      · cases ht : tok (l.drop k) with
        | none => rw [ht] at h; simp at h
        | some kn =>
          obtain ⟨kd, n⟩ := kn
          rw [ht] at h
          obtain ⟨hp1, hp2⟩ := tok_pos _ _ _ ht
          rw [List.length_drop] at hp2
          simp only [List.drop_drop, Prod.mk.injEq] at h
          obtain ⟨h1, h2⟩ := h
          have hn := tok_take_len l k n (by omega)
          have hs := skip_le (l.drop (k + n)) false
          rw [List.length_drop] at hs
          obtain ⟨rs, hrs⟩ : ∃ rs, (go f (l.drop (k + n + skip false (l.drop (k + n)))) (k + n + skip false (l.drop (k + n))) (c + 1)) = (rs, 0, p) := by
            refine ⟨_, Prod.ext rfl (Prod.ext ?_ ?_)⟩
            · rw [h2]
            · rw [h2]
          rw [hrs] at h1
          subst h1
          refine ⟨hk, by rw [hn]; exact hp1, by rw [hn]; show k + n ≤ l.length; omega, by rw [hn], ?_⟩
          rw [hn]
          exact ih (k + n) _ (c + 1) rs p rfl (by omega) (by omega) hrs
    · have : k = l.length := by omega
      rw [List.drop_eq_nil_of_le (by omega)] at h
      simp only [go, Prod.mk.injEq] at h
      obtain ⟨rfl, _, _⟩ := h
      show e + skip false (l.drop e) = l.length
      omega

theorem lex_chain {l : List UInt8} {ts : List Tok} {p : Nat} (h : lex l = (ts, 0, p)) : Chain l 0 ts := by
  unfold lex at h
  split at h
  · simp at h
  · rename_i hl
    unfold fin at h
    split at h
    · rename_i he
      have hs := skip_le l false
      have h1 := congrArg Prod.fst h
      refine go_chain l (l.length + 1) 0 (skip false l) 0 ts (go (l.length + 1) (l.drop (skip false l)) (skip false l) 0).2.2 (by simp) hs (by omega) (Prod.ext h1 (Prod.ext he rfl))
    · rename_i he
      simp only [Prod.mk.injEq] at h
      exact absurd h.2.1 he

theorem chain_at (l : List UInt8) : ∀ (ts : List Tok) (e k : Nat) (t : Tok), Chain l e ts → ts[k]? = some t → ∃ e', Chain l e' (t :: ts.drop (k + 1)) := by
  intro ts
  induction ts with
  | nil => intro e k t _ h; simp at h
  | cons x r ih =>
    intro e k t hc h
    cases k with
    | zero =>
      simp only [List.getElem?_cons_zero, Option.some.injEq] at h
      subst h
      exact ⟨e, hc⟩
    | succ k => exact ih _ k t hc.2.2.2.2 (by simpa using h)

theorem drop_of {α : Type} (l : List α) (k : Nat) (t : α) (h : l[k]? = some t) : l.drop k = t :: l.drop (k + 1) := by
  obtain ⟨hk, rfl⟩ := List.getElem?_eq_some_iff.1 h
  exact List.drop_eq_getElem_cons hk

end Go.Proofs.YtpggfkdfchafhaaDoor.Lx
