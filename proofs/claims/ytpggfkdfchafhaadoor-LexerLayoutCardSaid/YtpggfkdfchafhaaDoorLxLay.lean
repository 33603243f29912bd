/-
  Plain laws: the tokens of a source, separated by other gaps.
-/
import Derived.Test.YtpggfkdfchafhaaDoorLxConcat
namespace Go.Proofs.YtpggfkdfchafhaaDoor.Lx

/-- the gaps that the law lays -/
def gapB : Nat → List UInt8
  | 0 => [32]
  | 1 => [10]
  | 2 => [9, 32]
  | 3 => [32, 47, 47, 32, 120, 32, 58, 61, 32, 49, 32, 47, 10]
  | 4 => [13, 10]
  | _ => [47, 47, 10]

/-- a gap that ends a token and is skipped whole -/
def OkGap (g : List UInt8) : Prop := ∃ c r, g = c :: r ∧ Ends c ∧ g.length ≤ 13 ∧ ∀ rest, skip false (g ++ rest) = g.length + skip false rest

theorem ends_blank : Ends 32 := ⟨by decide, by decide, by decide, by decide, by decide⟩
theorem ends_tab : Ends 9 := ⟨by decide, by decide, by decide, by decide, by decide⟩
theorem ends_ret : Ends 13 := ⟨by decide, by decide, by decide, by decide, by decide⟩
theorem ends_slash : Ends 47 := ⟨by decide, by decide, by decide, by decide, by decide⟩
theorem sw (c : UInt8) (r : List UInt8) (h : whiteU c = true) : skip false (c :: r) = 1 + skip false r := by
  conv => lhs; unfold skip
  rw [if_neg Bool.false_ne_true, if_pos h]
theorem sn (r : List UInt8) : skip false (47 :: 47 :: r) = 1 + skip true (47 :: r) := by
  conv => lhs; unfold skip
  rw [if_neg Bool.false_ne_true, if_neg (by decide), if_pos ⟨rfl, rfl⟩]
theorem si (c : UInt8) (r : List UInt8) (h : c ≠ 10) : skip true (c :: r) = 1 + skip true r := by
  conv => lhs; unfold skip
  rw [if_pos rfl, if_neg h]
theorem so (r : List UInt8) : skip true (10 :: r) = 1 + skip false r := by
  conv => lhs; unfold skip
  rw [if_pos rfl, if_pos rfl]

theorem gapB_ok (n : Nat) : OkGap (gapB n) := by
  unfold gapB
  split
  · exact ⟨32, [], rfl, ends_blank, by decide, fun rest => by simp only [List.cons_append, List.nil_append, sw _ _ (show whiteU 32 = true by decide), List.length_cons, List.length_nil]⟩
  · exact ⟨10, [], rfl, ends_feed, by decide, fun rest => by simp only [List.cons_append, List.nil_append, sw _ _ (show whiteU 10 = true by decide), List.length_cons, List.length_nil]⟩
  · exact ⟨9, [32], rfl, ends_tab, by decide, fun rest => by simp only [List.cons_append, List.nil_append, sw _ _ (show whiteU 9 = true by decide), sw _ _ (show whiteU 32 = true by decide), List.length_cons, List.length_nil]; omega⟩
  · refine ⟨32, [47, 47, 32, 120, 32, 58, 61, 32, 49, 32, 47, 10], rfl, ends_blank, by decide, fun rest => ?_⟩
    simp only [List.cons_append, List.nil_append]
    rw [sw _ _ (by decide), sn, si _ _ (by decide), si _ _ (by decide), si _ _ (by decide), si _ _ (by decide), si _ _ (by decide), si _ _ (by decide), si _ _ (by decide), si _ _ (by decide), si _ _ (by decide), si _ _ (by decide), so]
    simp only [List.length_cons, List.length_nil]
    omega
  · exact ⟨13, [10], rfl, ends_ret, by decide, fun rest => by simp only [List.cons_append, List.nil_append, sw _ _ (show whiteU 13 = true by decide), sw _ _ (show whiteU 10 = true by decide), List.length_cons, List.length_nil]; omega⟩
  · refine ⟨47, [47, 10], rfl, ends_slash, by decide, fun rest => ?_⟩
    simp only [List.cons_append, List.nil_append]
    rw [sn, si _ _ (by decide), so]
    simp only [List.length_cons, List.length_nil]
    omega

/-- the tokens' texts, each followed by its gap -/
def lay (ga : Nat → List UInt8) : Nat → List Tok → List UInt8
  | _, [] => []
  | i, t :: r => t.text ++ (ga i ++ lay ga (i + 1) r)
theorem lay_snoc (ga : Nat → List UInt8) (ts : List Tok) (t : Tok) : ∀ i, lay ga i (ts ++ [t]) = lay ga i ts ++ t.text ++ ga (i + ts.length) := by
  induction ts with
  | nil => intro i; simp [lay]
  | cons x r ih =>
    intro i
    show x.text ++ (ga i ++ lay ga (i + 1) (r ++ [t])) = _
    rw [ih]
    simp only [lay, List.append_assoc, List.length_cons]
    rw [show i + 1 + r.length = i + (r.length + 1) from by omega]

/-- a token whose text is one token -/
def Alone (t : Tok) : Prop := tok t.text = some (t.kind, t.text.length)
theorem lex_alone {l : List UInt8} {ts : List Tok} {k p : Nat} (h : lex l = (ts, k, p)) : ∀ t ∈ ts, Alone t := by
  intro t ht
  obtain ⟨h1, h2⟩ := lex_toks h t ht
  have := tok_take _ _ _ t.text.length h1 (Nat.le_refl _)
  rw [← h2] at this
  exact this

theorem syms_first : ∀ t ∈ refSyms, ∃ c r, t = c :: r ∧ whiteU c = false ∧ c ≠ 47 := by
  intro t ht
  unfold refSyms at ht
  simp only [List.mem_cons, List.not_mem_nil, or_false] at ht
  rcases ht with rfl | rfl | rfl | rfl | rfl | rfl | rfl | rfl | rfl | rfl | rfl | rfl | rfl | rfl | rfl | rfl | rfl | rfl | rfl | rfl | rfl | rfl | rfl | rfl | rfl | rfl | rfl
  all_goals exact ⟨_, _, rfl, by decide, by decide⟩

theorem tok_first (c : UInt8) (r : List UInt8) (kd n : Nat) (h : tok (c :: r) = some (kd, n)) : whiteU c = false ∧ c ≠ 47 := by
  rw [tok_cons] at h
  split at h
  · rename_i hl
    unfold letterU letter at hl
    simp only [Bool.or_eq_true, Bool.and_eq_true, decide_eq_true_eq] at hl
    refine ⟨?_, ?_⟩
    · unfold whiteU white
      simp only [Bool.or_eq_false_iff, beq_eq_false_iff_ne]
      omega
    · rintro rfl
      have : (47 : UInt8).toNat = 47 := rfl
      omega
  · split at h
    · rename_i hd
      unfold digitU digit at hd
      simp only [Bool.and_eq_true, decide_eq_true_eq] at hd
      refine ⟨?_, ?_⟩
      · unfold whiteU white
        simp only [Bool.or_eq_false_iff, beq_eq_false_iff_ne]
        omega
      · rintro rfl
        have : (47 : UInt8).toNat = 47 := rfl
        omega
    · cases hs : sym (c :: r) with
      | none => rw [hs] at h; cases h
      | some t =>
        obtain ⟨h1, _, _⟩ := sym_len _ _ hs
        obtain ⟨c', r', rfl, h2, h3⟩ := syms_first t (List.mem_of_find?_eq_some hs)
        have := congrArg (fun x => x[0]?) h1
        simp at this
        rw [this]
        exact ⟨h2, h3⟩
theorem skip_first (c : UInt8) (r b : List UInt8) (kd n : Nat) (h : tok (c :: r) = some (kd, n)) : skip false (c :: (r ++ b)) = 0 := by
  obtain ⟨h1, h2⟩ := tok_first c r kd n h
  unfold skip
  rw [if_neg Bool.false_ne_true, if_neg (by rw [h1]; exact Bool.false_ne_true), if_neg (by rintro ⟨h, _⟩; exact h2 h)]
theorem skip_lay (ga : Nat → List UInt8) (i : Nat) (ts : List Tok) (ha : ∀ t ∈ ts, Alone t) : skip false (lay ga i ts) = 0 := by
  cases ts with
  | nil => rfl
  | cons t r =>
    have h := ha t (by simp)
    unfold Alone at h
    show skip false (t.text ++ (ga i ++ lay ga (i + 1) r)) = 0
    cases hx : t.text with
    | nil => rw [hx] at h; simp [tok] at h
    | cons c q =>
      rw [hx] at h
      exact skip_first c q _ _ _ h

/-- kind and text of tokens -/
def keys (l : List Tok) : List (Nat × List UInt8) := l.map fun t => (t.kind, t.text)

theorem G_lay (ga : Nat → List UInt8) (hg : ∀ i, OkGap (ga i)) (ts : List Tok) : ∀ (i k c : Nat), (∀ t ∈ ts, Alone t) → c + ts.length ≤ 1500 → keys (G (lay ga i ts) k c).1 = keys ts ∧ (G (lay ga i ts) k c).2 = (0, 0) := by
  induction ts with
  | nil => intro i k c _ _; exact ⟨rfl, rfl⟩
  | cons t r ih =>
    intro i k c ha hc
    have h := ha t (by simp)
    unfold Alone at h
    obtain ⟨c0, g0, hg0, hends, _, hskip⟩ := hg i
    simp only [List.length_cons] at hc
    cases hx : t.text with
    | nil => rw [hx] at h; simp [tok] at h
    | cons x q =>
      have he : lay ga i (t :: r) = x :: (q ++ (ga i ++ lay ga (i + 1) r)) := by
        show t.text ++ _ = _
        rw [hx]; rfl
      have ht : tok (x :: (q ++ (ga i ++ lay ga (i + 1) r))) = some (t.kind, (x :: q).length) := by
        rw [hx] at h
        rw [← h, hg0]
        exact tok_app c0 hends x q (g0 ++ lay ga (i + 1) r)
      rw [he, G_some x _ k c _ _ (by omega) ht]
      have hd : (x :: (q ++ (ga i ++ lay ga (i + 1) r))).drop (x :: q).length = ga i ++ lay ga (i + 1) r := by
        rw [← List.cons_append, List.drop_left]
      have htk : (x :: (q ++ (ga i ++ lay ga (i + 1) r))).take (x :: q).length = x :: q := by
        rw [← List.cons_append, List.take_left]
      have hs : skip false (ga i ++ lay ga (i + 1) r) = (ga i).length := by
        rw [hskip, skip_lay ga (i + 1) r (fun t ht => ha t (by simp [ht])), Nat.add_zero]
      have haf : after (x :: (q ++ (ga i ++ lay ga (i + 1) r))) (x :: q).length = lay ga (i + 1) r := by
        unfold after
        rw [hd, hs, List.drop_left]
      rw [haf, htk, hd, hs]
      obtain ⟨h1, h2⟩ := ih (i + 1) (k + (x :: q).length + (ga i).length) (c + 1) (fun t ht => ha t (by simp [ht])) (by omega)
      refine ⟨?_, h2⟩
      show (t.kind, x :: q) :: keys _ = (t.kind, t.text) :: keys r
      rw [h1, hx]

/-- chapter 1's word on tokens that are separated by other gaps -/
theorem lex_lay (ga : Nat → List UInt8) (hg : ∀ i, OkGap (ga i)) (ts : List Tok) (ha : ∀ t ∈ ts, Alone t) (hn : ts.length ≤ 1500) (hl : (lay ga 0 ts).length ≤ 4000) : ∃ ts', lex (lay ga 0 ts) = (ts', 0, 0) ∧ keys ts' = keys ts := by
  obtain ⟨h1, h2⟩ := G_lay ga hg ts 0 0 0 ha (by omega)
  refine ⟨_, ?_, h1⟩
  rw [lex_G _ hl, skip_lay ga 0 ts ha, List.drop_zero]
  unfold fin
  rw [h2]
  rfl

theorem keys_at {a b : List Tok} (h : keys a = keys b) (k : Nat) (t : Tok) (ht : b[k]? = some t) : ∃ t', a[k]? = some t' ∧ t'.kind = t.kind ∧ t'.text = t.text := by
  have h1 : (keys b)[k]? = some (t.kind, t.text) := by unfold keys; rw [List.getElem?_map, ht]; rfl
  rw [← h] at h1
  unfold keys at h1
  rw [List.getElem?_map, Option.map_eq_some_iff] at h1
  obtain ⟨t', h2, h3⟩ := h1
  simp only [Prod.mk.injEq] at h3
  exact ⟨t', h2, h3.1, h3.2⟩
theorem keys_len {a b : List Tok} (h : keys a = keys b) : a.length = b.length := by
  have := congrArg List.length h
  simpa [keys] using this

end Go.Proofs.YtpggfkdfchafhaaDoor.Lx
