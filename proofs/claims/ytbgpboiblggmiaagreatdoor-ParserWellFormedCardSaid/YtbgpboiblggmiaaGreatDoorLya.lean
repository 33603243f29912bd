/-
  A source that is written anew with other gaps before its tokens: its tokens and their offsets; parsing it.
-/
import Derived.Test.YtbgpboiblggmiaaGreatDoorSzc
set_option linter.unusedVariables false
set_option linter.unusedSimpArgs false
namespace Go.Proofs.YtbgpboiblggmiaaGreatDoor.Lx

/-- tokens, each behind a gap -/
def lay2 (ga : Nat → List UInt8) : Nat → List Tok → List UInt8
  | _, [] => []
  | i, t :: r => ga i ++ (t.text ++ lay2 ga (i + 1) r)
def toks2 (ga : Nat → List UInt8) : Nat → Nat → List Tok → List Tok
  | _, _, [] => []
  | i, k, t :: r => ⟨t.kind, t.text, k + (ga i).length⟩ :: toks2 ga (i + 1) (k + (ga i).length + t.text.length) r
theorem lay2_snoc (ga : Nat → List UInt8) (t : Tok) : ∀ (ts : List Tok) (i : Nat), lay2 ga i (ts ++ [t]) = lay2 ga i ts ++ ga (i + ts.length) ++ t.text
  | [], i => by simp [lay2]
  | x :: r, i => by
    rw [List.cons_append, lay2, lay2, lay2_snoc ga t r (i + 1)]
    simp only [List.append_assoc, List.length_cons]
    rw [show i + 1 + r.length = i + (r.length + 1) by omega]
theorem toks2_snoc (ga : Nat → List UInt8) (t : Tok) : ∀ (ts : List Tok) (i k : Nat), toks2 ga i k (ts ++ [t]) = toks2 ga i k ts ++ [⟨t.kind, t.text, k + (lay2 ga i ts).length + (ga (i + ts.length)).length⟩]
  | [], i, k => by simp [lay2, toks2]
  | x :: r, i, k => by
    rw [List.cons_append, toks2, toks2, lay2, toks2_snoc ga t r (i + 1)]
    simp only [List.cons_append, List.length_cons, List.length_append]
    rw [show i + 1 + r.length = i + (r.length + 1) by omega, show k + (ga i).length + x.text.length + (lay2 ga (i + 1) r).length + (ga (i + (r.length + 1))).length = k + ((ga i).length + (x.text.length + (lay2 ga (i + 1) r).length)) + (ga (i + (r.length + 1))).length by omega]
theorem alone_cons {t : Tok} (h : Alone t) : ∃ x q, t.text = x :: q := by
  unfold Alone at h
  cases hx : t.text with
  | nil => rw [hx] at h; simp [tok] at h
  | cons x q => exact ⟨x, q, rfl⟩
theorem skip_text {t : Tok} (h : Alone t) (b : List UInt8) : skip false (t.text ++ b) = 0 := by
  obtain ⟨x, q, hx⟩ := alone_cons h
  unfold Alone at h
  rw [hx] at h ⊢
  exact skip_first x q b _ _ h
theorem G_lay2 (ga : Nat → List UInt8) (hg : ∀ i, OkGap (ga i)) : ∀ (r : List Tok) (t : Tok) (i k c : Nat), Alone t → (∀ u ∈ r, Alone u) → c + 1 + r.length ≤ 1500 →
    G (t.text ++ lay2 ga i r) k c = (⟨t.kind, t.text, k⟩ :: toks2 ga i (k + t.text.length) r, 0, 0)
  | [], t, i, k, c, ht, _, hc => by
    obtain ⟨x, q, hx⟩ := alone_cons ht
    unfold Alone at ht
    rw [lay2, List.append_nil, toks2, hx]
    rw [hx] at ht
    have hd : (x :: q).drop (x :: q).length = [] := by simp
    rw [G_some x q k c _ _ (by omega) ht, show after (x :: q) (x :: q).length = [] by unfold after; rw [hd]; simp, G_nil, List.take_of_length_le (Nat.le_refl _)]
  | u :: r, t, i, k, c, ht, hr, hc => by
    obtain ⟨c0, g0, hg0, hends, _, hskip⟩ := hg i
    obtain ⟨x, q, hx⟩ := alone_cons ht
    have hu := hr u (by simp)
    have ht' := ht
    unfold Alone at ht'
    rw [hx] at ht'
    simp only [List.length_cons] at hc
    have he : t.text ++ lay2 ga i (u :: r) = x :: (q ++ (ga i ++ (u.text ++ lay2 ga (i + 1) r))) := by
      rw [hx, lay2]; rfl
    have htok : tok (x :: (q ++ (ga i ++ (u.text ++ lay2 ga (i + 1) r)))) = some (t.kind, (x :: q).length) := by
      rw [← ht', hg0]
      exact tok_app c0 hends x q (g0 ++ (u.text ++ lay2 ga (i + 1) r))
    rw [he, G_some x _ k c _ _ (by omega) htok]
    have hd : (x :: (q ++ (ga i ++ (u.text ++ lay2 ga (i + 1) r)))).drop (x :: q).length = ga i ++ (u.text ++ lay2 ga (i + 1) r) := by
      rw [← List.cons_append, List.drop_left]
    have htk : (x :: (q ++ (ga i ++ (u.text ++ lay2 ga (i + 1) r)))).take (x :: q).length = x :: q := by
      rw [← List.cons_append, List.take_left]
    have hs : skip false (ga i ++ (u.text ++ lay2 ga (i + 1) r)) = (ga i).length := by
      rw [hskip, skip_text hu, Nat.add_zero]
    have haf : after (x :: (q ++ (ga i ++ (u.text ++ lay2 ga (i + 1) r)))) (x :: q).length = u.text ++ lay2 ga (i + 1) r := by
      unfold after
      rw [hd, hs, List.drop_left]
    rw [haf, htk, hd, hs, G_lay2 ga hg r u (i + 1) _ (c + 1) hu (fun v hv => hr v (by simp [hv])) (by omega), toks2, hx]
theorem lex_lay2 (ga : Nat → List UInt8) (hg : ∀ i, OkGap (ga i)) (ts : List Tok) (ha : ∀ t ∈ ts, Alone t) (hn : ts.length ≤ 1500) (hl : (lay2 ga 0 ts).length ≤ 4000) : lex (lay2 ga 0 ts) = (toks2 ga 0 0 ts, 0, 0) := by
  cases ts with
  | nil => rfl
  | cons t r =>
    obtain ⟨c0, g0, hg0, hends, _, hskip⟩ := hg 0
    have ht := ha t (by simp)
    rw [lex_G _ hl]
    have hs : skip false (lay2 ga 0 (t :: r)) = (ga 0).length := by
      rw [lay2, hskip, skip_text ht, Nat.add_zero]
    rw [hs]
    rw [lay2, List.drop_left, G_lay2 ga hg r t (0 + 1) _ 0 ht (fun v hv => ha v (by simp [hv])) (by simp only [List.length_cons] at hn; omega), toks2]
    simp [fin]
/-- token by token -/
theorem toks2_rel (ga : Nat → List UInt8) : ∀ (ts : List Tok) (i k : Nat), (toks2 ga i k ts).length = ts.length ∧ ∀ (m : Nat) (t : Tok), ts[m]? = some t → ∃ u, (toks2 ga i k ts)[m]? = some u ∧ u.kind = t.kind ∧ u.text = t.text
  | [], i, k => ⟨rfl, fun m t h => by simp at h⟩
  | x :: r, i, k => by
    obtain ⟨h1, h2⟩ := toks2_rel ga r (i + 1) (k + (ga i).length + x.text.length)
    rw [toks2]
    refine ⟨by simp [h1], fun m t h => ?_⟩
    cases m with
    | zero =>
      simp only [List.getElem?_cons_zero, Option.some.injEq] at h ⊢
      subst h
      exact ⟨_, rfl, rfl, rfl⟩
    | succ m => simpa using h2 m t (by simpa using h)
end Go.Proofs.YtbgpboiblggmiaaGreatDoor.Lx
namespace Go.Proofs.YtbgpboiblggmiaaGreatDoor.Px
open Lx (Tok)

/-- offsets of tokens at the same place, or the ends -/
def offR (ts us : List Tok) (E F : Nat) (a b : Int) : Prop := (∃ (m : Nat) (t u : Tok), ts[m]? = some t ∧ us[m]? = some u ∧ a = (t.off : Int) ∧ b = (u.off : Int)) ∨ (a = E ∧ b = F)
theorem offR_iff {ts us : List Tok} {E F : Nat} (h1 : ts.Pairwise (fun a b => a.off < b.off)) (h2 : ∀ t ∈ ts, t.off < E) (h3 : us.Pairwise (fun a b => a.off < b.off)) (h4 : ∀ t ∈ us, t.off < F)
    {a a' b b' : Int} (ha : offR ts us E F a a') (hb : offR ts us E F b b') : a = b ↔ a' = b' := by
  rcases ha with ⟨m, t, u, p1, p2, p3, p4⟩ | ⟨p1, p2⟩ <;> rcases hb with ⟨n, t', u', q1, q2, q3, q4⟩ | ⟨q1, q2⟩
  · obtain ⟨l1, e1⟩ := List.getElem?_eq_some_iff.1 p1
    obtain ⟨l2, e2⟩ := List.getElem?_eq_some_iff.1 p2
    obtain ⟨l3, e3⟩ := List.getElem?_eq_some_iff.1 q1
    obtain ⟨l4, e4⟩ := List.getElem?_eq_some_iff.1 q2
    rcases Nat.lt_trichotomy m n with h | h | h
    · have i1 := List.pairwise_iff_getElem.1 h1 m n l1 l3 h
      have i2 := List.pairwise_iff_getElem.1 h3 m n l2 l4 h
      rw [e1, e3] at i1
      rw [e2, e4] at i2
      omega
    · subst h
      rw [p1] at q1
      rw [p2] at q2
      cases q1
      cases q2
      omega
    · have i1 := List.pairwise_iff_getElem.1 h1 n m l3 l1 h
      have i2 := List.pairwise_iff_getElem.1 h3 n m l4 l2 h
      rw [e1, e3] at i1
      rw [e2, e4] at i2
      omega
  · have := h2 t (List.mem_of_getElem? p1)
    have := h4 u (List.mem_of_getElem? p2)
    omega
  · have := h2 t' (List.mem_of_getElem? q1)
    have := h4 u' (List.mem_of_getElem? q2)
    omega
  · omega
/-- diagnostics one by one -/
inductive RelDs (ρ : Int → Int → Prop) : List D → List D → Prop where
  | nil : RelDs ρ [] []
  | snoc (l l' : List D) (e o o' : Int) (h : RelDs ρ l l') (ho : ρ o o') : RelDs ρ (l ++ [⟨e, o⟩]) (l' ++ [⟨e, o'⟩])
theorem RelDs.len {ρ : Int → Int → Prop} {l l' : List D} (h : RelDs ρ l l') : l.length = l'.length := by
  induction h with
  | nil => rfl
  | snoc l l' e o o' h ho ih => simp [ih]
theorem RelDs.get {ρ : Int → Int → Prop} {l l' : List D} (h : RelDs ρ l l') : ∀ (m : Nat) (d : D), l[m]? = some d → ∃ d', l'[m]? = some d' ∧ d'.err = d.err ∧ ρ d.off d'.off := by
  induction h with
  | nil => intro m d h; simp at h
  | snoc l l' e o o' h ho ih =>
    intro m d hd
    have hl := h.len
    by_cases hm : m < l.length
    · rw [List.getElem?_append_left hm] at hd
      rw [List.getElem?_append_left (by omega)]
      exact ih m d hd
    · rw [List.getElem?_append_right (by omega)] at hd
      rw [List.getElem?_append_right (by omega), ← hl]
      cases hk : m - l.length with
      | zero => rw [hk] at hd; simp at hd; subst hd; exact ⟨_, rfl, rfl, ho⟩
      | succ k => rw [hk] at hd; simp at hd
theorem report_snoc (d e : D) (l : List D) : report d (l ++ [e]) = if l.length + 1 < 20 ∧ e.off ≠ d.off then l ++ [e] ++ [d] else l ++ [e] := by
  unfold report
  rw [List.getLast?_concat]
  simp only [List.length_append, List.length_singleton, Bool.and_eq_true, decide_eq_true_eq]
theorem RelDs.report {ρ : Int → Int → Prop} (hinj : ∀ {a a' b b' : Int}, ρ a a' → ρ b b' → (a = b ↔ a' = b')) {l l' : List D} (h : RelDs ρ l l') (e o o' : Int) (ho : ρ o o') : RelDs ρ (report ⟨e, o⟩ l) (report ⟨e, o'⟩ l') := by
  have h0 := h
  cases h with
  | nil => exact RelDs.snoc [] [] e o o' .nil ho
  | snoc l l' e1 o1 o1' h ho1 =>
    rw [report_snoc, report_snoc]
    have hl := h.len
    by_cases hc : l.length + 1 < 20 ∧ o1 ≠ o
    · rw [if_pos hc, if_pos ⟨by omega, fun h => hc.2 ((hinj ho1 ho).2 h)⟩]
      exact RelDs.snoc _ _ e o o' h0 ho
    · rw [if_neg hc, if_neg (fun h => hc ⟨by omega, fun h' => h.2 ((hinj ho1 ho).1 h')⟩)]
      exact h0
mutual
theorem relT_size {ρ : Int → Int → Prop} : ∀ (t t' : T), RelT ρ t t' → size t = size t' ∧ depth t = depth t'
  | .mk _ _ _ _ _ _ _ kids _, .mk _ _ _ _ _ _ _ kids' _, h => by
    unfold RelT at h
    obtain ⟨h1, h2⟩ := relL_size kids kids' h.2.2.2.2.2.2.2.2
    rw [size, size, depth, depth, h1, h2]
    exact ⟨rfl, rfl⟩
theorem relL_size {ρ : Int → Int → Prop} : ∀ (l l' : List T), RelL ρ l l' → sizes l = sizes l' ∧ depths l = depths l'
  | [], [], _ => ⟨rfl, rfl⟩
  | t :: r, t' :: r', h => by
    unfold RelL at h
    obtain ⟨h1, h2⟩ := relT_size t t' h.1
    obtain ⟨h3, h4⟩ := relL_size r r' h.2
    rw [sizes, sizes, depths, depths, h1, h2, h3, h4]
    exact ⟨rfl, rfl⟩
  | [], _ :: _, h => by unfold RelL at h; exact h.elim
  | _ :: _, [], h => by unfold RelL at h; exact h.elim
end
theorem relL_fits {ρ : Int → Int → Prop} {l l' : List T} (h : RelL ρ l l') : fits (source l) = fits (source l') := by
  obtain ⟨h1, h2⟩ := relL_size l l' h
  unfold fits source
  rw [sizes_of, sizes_of, depths_of, depths_of, h1, h2]
theorem relC_get {ρ : Int → Int → Prop} : ∀ (c c' : List Tok), c.length = c'.length → (∀ (m : Nat) (t u : Tok), c[m]? = some t → c'[m]? = some u → RTok ρ t u) → RelC ρ c c'
  | [], [], _, _ => by unfold RelC; trivial
  | t :: r, u :: r', hl, h => by
    unfold RelC
    exact ⟨h 0 t u rfl rfl, relC_get r r' (by simpa using hl) (fun m a b ha hb => h (m + 1) a b (by simpa using ha) (by simpa using hb))⟩
  | [], _ :: _, hl, _ => by simp at hl
  | _ :: _, [], hl, _ => by simp at hl
/-- the same tokens at other offsets -/
theorem units_same {E F : Nat} {ts us : List Tok} {ρ : Int → Int → Prop} (hinj : ∀ {a a' b b' : Int}, ρ a a' → ρ b b' → (a = b ↔ a' = b')) (hl : ts.length = us.length) (hr : ∀ (m : Nat) (t u : Tok), ts[m]? = some t → us[m]? = some u → RTok ρ t u) (he : ρ E F) :
    RelL ρ (units E ts).1 (units F us).1 ∧ RelDs ρ (units E ts).2.diags (units F us).2.diags := by
  have ok : (⟨E, F, ρ, RelDs ρ, [], []⟩ : Par).Ok := ⟨fun l l' e o o' h1 h2 => RelDs.report hinj h1 e o o' h2⟩
  have hs : Sim ⟨E, F, ρ, RelDs ρ, [], []⟩ (start ts) (start us) := ⟨⟨ts, us, relC_get ts us hl hr, (List.append_nil _).symm, (List.append_nil _).symm⟩, rfl, .nil⟩
  rcases sim_units ok (ts.length + 1) (us.length + 1) [] [] (start ts) (start us) (Nat.le_refl _) (Nat.le_refl _) (relL_nil _) hs with ⟨j, j', m, m', t, t', g⟩ | ⟨j, j', m, m', o, o', t, t', g⟩
  · have ge : units E ts = unitsGo (unit E) j m t := g.e
    have ge' : units F us = unitsGo (unit F) j' m' t' := g.e'
    rw [units_nil _ _ g.x] at ge
    rw [units_nil _ _ g.y] at ge'
    rw [ge, ge']
    exact ⟨g.rel, g.sim.diags⟩
  · exact absurd ⟨rfl, rfl, he⟩ g.dv.ns
/-- the same tokens at other offsets: the same tree, the diagnostics at the same tokens, unless the tree is too large -/
theorem layout {src other : List UInt8} {ts us : List Tok} {p q : Nat} (h1 : Lx.lex src = (ts, 0, p)) (h2 : Lx.lex other = (us, 0, q)) (hl : ts.length = us.length) (hk : ∀ (m : Nat) (t u : Tok), ts[m]? = some t → us[m]? = some u → t.kind = u.kind ∧ t.text = u.text) :
    ∃ l l' d d', parse src = (source l, d) ∧ parse other = (source l', d') ∧ RelL (offR ts us src.length other.length) l l' ∧
      (RelDs (offR ts us src.length other.length) d d' ∨ (d = [⟨2, 0⟩] ∧ d' = [⟨2, 0⟩])) := by
  obtain ⟨a1, a2⟩ := Lx.lex_off h1
  obtain ⟨b1, b2⟩ := Lx.lex_off h2
  obtain ⟨r1, r2⟩ := units_same (E := src.length) (F := other.length) (ρ := offR ts us src.length other.length) (fun ha hb => offR_iff a1 a2 b1 b2 ha hb) hl
    (fun m t u ht hu => ⟨(hk m t u ht hu).1, (hk m t u ht hu).2, .inl ⟨m, t, u, ht, hu, rfl, rfl⟩⟩) (.inr ⟨rfl, rfl⟩)
  have hf := relL_fits r1
  have hlen := r2.len
  rw [parse_units h1, parse_units h2]
  by_cases hc : (units src.length ts).2.diags = [] ∧ fits (source (units src.length ts).1) = false
  · rw [if_pos hc, if_pos ⟨List.length_eq_zero_iff.1 (by rw [← hlen, hc.1]; rfl), by rw [← hf]; exact hc.2⟩]
    exact ⟨[], [], _, _, rfl, rfl, relL_nil _, .inr ⟨rfl, rfl⟩⟩
  · rw [if_neg hc, if_neg (fun hh => hc ⟨List.length_eq_zero_iff.1 (by rw [hlen, hh.1]; rfl), by rw [hf]; exact hh.2⟩)]
    exact ⟨_, _, _, _, rfl, rfl, r1, .inl r2⟩
end Go.Proofs.YtbgpboiblggmiaaGreatDoor.Px
