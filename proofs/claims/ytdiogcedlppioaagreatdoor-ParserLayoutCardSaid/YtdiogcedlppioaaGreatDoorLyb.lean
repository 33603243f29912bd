/-
  Layout: the law's gaps; what the new text's parse says, in the law's terms.
-/
import Derived.Test.YtdiogcedlppioaaGreatDoorLya
import Derived.Test.YtdiogcedlppioaaGreatDoorLwu
set_option linter.unusedVariables false
set_option linter.unusedSimpArgs false
namespace Go.Proofs.YtdiogcedlppioaaGreatDoor.Lx

/-- the law's gaps -/
def gapP : Nat → List UInt8
  | 0 => [32]
  | 1 => [10]
  | 2 => [9, 32]
  | 3 => [47, 47, 32, 120, 10]
  | _ => [32, 13, 10]
theorem gapP_ok (n : Nat) : OkGap (gapP n) := by
  unfold gapP
  split
  · exact ⟨32, [], rfl, ends_blank, by decide, fun rest => by simp only [List.cons_append, List.nil_append, sw _ _ (show whiteU 32 = true by decide), List.length_cons, List.length_nil]⟩
  · exact ⟨10, [], rfl, ends_feed, by decide, fun rest => by simp only [List.cons_append, List.nil_append, sw _ _ (show whiteU 10 = true by decide), List.length_cons, List.length_nil]⟩
  · exact ⟨9, [32], rfl, ends_tab, by decide, fun rest => by simp only [List.cons_append, List.nil_append, sw _ _ (show whiteU 9 = true by decide), sw _ _ (show whiteU 32 = true by decide), List.length_cons, List.length_nil]; omega⟩
  · refine ⟨47, [47, 32, 120, 10], rfl, ends_slash, by decide, fun rest => ?_⟩
    simp only [List.cons_append, List.nil_append]
    rw [sn, si _ _ (by decide), si _ _ (by decide), si _ _ (by decide), so]
    simp only [List.length_cons, List.length_nil]
    omega
  · exact ⟨32, [13, 10], rfl, ends_blank, by decide, fun rest => by simp only [List.cons_append, List.nil_append, sw _ _ (show whiteU 32 = true by decide), sw _ _ (show whiteU 13 = true by decide), sw _ _ (show whiteU 10 = true by decide), List.length_cons, List.length_nil]; omega⟩
/-- the gap before the token of an index -/
def gapIn (zs : List Int) (i : Nat) : List UInt8 := match zs[i]? with
  | some z => gapP (z.toNat % 5)
  | none => [32]
theorem gapIn_ok (zs : List Int) (i : Nat) : OkGap (gapIn zs i) := by
  unfold gapIn
  split
  · exact gapP_ok _
  · exact gapP_ok 0
/-- where the token of an index lies in the new text -/
def newOff (ga : Nat → List UInt8) (ts : List Tok) (m : Nat) : Nat := (lay2 ga 0 (ts.take m)).length + (ga m).length
theorem toks2_at (ga : Nat → List UInt8) : ∀ (ts : List Tok) (i k m : Nat) (u : Tok), (toks2 ga i k ts)[m]? = some u → u.off = k + (lay2 ga i (ts.take m)).length + (ga (i + m)).length
  | [], i, k, m, u, h => by simp [toks2] at h
  | x :: r, i, k, m, u, h => by
    rw [toks2] at h
    cases m with
    | zero =>
      simp only [List.getElem?_cons_zero, Option.some.injEq] at h
      subst h
      simp [lay2]
    | succ m =>
      have h1 := toks2_at ga r (i + 1) _ m u (by simpa using h)
      rw [h1, List.take_succ_cons, lay2, List.length_append, List.length_append, show i + 1 + m = i + (m + 1) by omega]
      omega
/-- a step of the loop -/
theorem lay2_next {ga : Nat → List UInt8} {ts : List Tok} {k : Nat} {t : Tok} (ht : ts[k]? = some t) : lay2 ga 0 (ts.take (k + 1)) = lay2 ga 0 (ts.take k) ++ ga k ++ t.text := by
  have hk := (List.getElem?_eq_some_iff.1 ht).1
  rw [List.take_add_one, ht]
  show lay2 ga 0 (ts.take k ++ [t]) = _
  rw [lay2_snoc, List.length_take, Nat.zero_add, Nat.min_eq_left (Nat.le_of_lt hk)]
end Go.Proofs.YtdiogcedlppioaaGreatDoor.Lx
namespace Go.Proofs.YtdiogcedlppioaaGreatDoor.Px
open Lx (Tok)

/-- where a diagnostic lies in the new text -/
def WhereAt (ts : List Tok) (at_ : Nat → Nat) (E F : Nat) (x y : D) : Prop :=
  y.err = x.err ∧ ((x.err = 2 ∧ x.off = 0) ∨ (∃ m t, ts[m]? = some t ∧ x.off = (t.off : Int) ∧ y.off = (at_ m : Int)) ∨ (x.off = (E : Int) ∧ y.off = (F : Int)))
mutual
theorem relT_strip' {ρ : Int → Int → Prop} : ∀ (t t' : T), RelT ρ t t' → stripT t = stripT t'
  | .mk k x y n l i g kids o, .mk k' x' y' n' l' i' g' kids' o', h => by
    unfold RelT at h
    obtain ⟨h1, h2, h3, h4, h5, h6, h7, h8, h9⟩ := h
    rw [stripT, stripT, h1, h2, h3, h4, h5, h6, h7, relL_strip' kids kids' h9]
theorem relL_strip' {ρ : Int → Int → Prop} : ∀ (l l' : List T), RelL ρ l l' → stripL l = stripL l'
  | [], [], _ => rfl
  | t :: r, t' :: r', h => by
    unfold RelL at h
    rw [stripL, stripL, relT_strip' t t' h.1, relL_strip' r r' h.2]
  | [], _ :: _, h => by unfold RelL at h; exact h.elim
  | _ :: _, [], h => by unfold RelL at h; exact h.elim
end
/-- what the two parses say of each other -/
structure Laid (ts : List Tok) (at_ : Nat → Nat) (E F : Nat) (X Y : T) (d d' : List D) : Prop where
  strip : stripT X = stripT Y
  len : d.length = d'.length
  each : ∀ (i : Nat) (x : D), d[i]? = some x → ∃ y, d'[i]? = some y ∧ WhereAt ts at_ E F x y
theorem laid {src : List UInt8} {ts : List Tok} {p : Nat} (h1 : Lx.lex src = (ts, 0, p)) (ga : Nat → List UInt8) (hg : ∀ i, Lx.OkGap (ga i)) (hl : (Lx.lay2 ga 0 ts).length ≤ 4000) {X Y : T} {d d' : List D}
    (hX : parse src = (X, d)) (hY : parse (Lx.lay2 ga 0 ts) = (Y, d')) : Laid ts (Lx.newOff ga ts) src.length (Lx.lay2 ga 0 ts).length X Y d d' := by
  have h2 := Lx.lex_lay2 ga hg ts (Lx.lex_alone h1) (Lx.lex_len_of h1) hl
  obtain ⟨r1, r2⟩ := Lx.toks2_rel ga ts 0 0
  obtain ⟨l, l', e, e', p1, p2, p3, p4⟩ := layout h1 h2 r1.symm (fun m t u ht hu => by
    obtain ⟨u', hu', hk, ht'⟩ := r2 m t ht
    rw [hu'] at hu
    cases hu
    exact ⟨hk.symm, ht'.symm⟩)
  rw [p1] at hX
  rw [p2] at hY
  cases hX
  cases hY
  have hs : stripT (source l) = stripT (source l') := by
    unfold source T.of
    rw [stripT, stripT, relL_strip' l l' p3]
  rcases p4 with p4 | ⟨rfl, rfl⟩
  · refine ⟨hs, p4.len, fun i x hx => ?_⟩
    obtain ⟨y, hy, he, ho⟩ := p4.get i x hx
    refine ⟨y, hy, he, .inr ?_⟩
    rcases ho with ⟨m, t, u, q1, q2, q3, q4⟩ | ⟨q1, q2⟩
    · refine .inl ⟨m, t, q1, q3, ?_⟩
      rw [q4, Lx.toks2_at ga ts 0 0 m u q2]
      unfold Lx.newOff
      rw [Nat.zero_add, Nat.zero_add]
    · exact .inr ⟨q1, q2⟩
  · refine ⟨hs, rfl, fun i x hx => ⟨x, hx, rfl, .inl ?_⟩⟩
    cases i with
    | zero => simp only [List.getElem?_cons_zero, Option.some.injEq] at hx; subst hx; exact ⟨rfl, rfl⟩
    | succ i => simp at hx
/-- what the inner loop has found after some tokens -/
def Found (ts : List Tok) (at_ : Nat → Nat) (F : Nat) (o : Int) (k v : Nat) : Prop :=
  (∃ m t, m < k ∧ ts[m]? = some t ∧ (t.off : Int) = o ∧ v = at_ m) ∨ ((∀ m t, m < k → ts[m]? = some t → (t.off : Int) ≠ o) ∧ v = F)
theorem Found.start (ts : List Tok) (at_ : Nat → Nat) (F : Nat) (o : Int) : Found ts at_ F o 0 F := .inr ⟨fun _ _ h => absurd h (Nat.not_lt_zero _), rfl⟩
theorem Found.hit {ts : List Tok} {at_ : Nat → Nat} {F : Nat} {o : Int} {k : Nat} {t : Tok} (ht : ts[k]? = some t) (h : (t.off : Int) = o) : Found ts at_ F o (k + 1) (at_ k) := .inl ⟨k, t, Nat.lt_succ_self k, ht, h, rfl⟩
theorem Found.miss {ts : List Tok} {at_ : Nat → Nat} {F : Nat} {o : Int} {k v : Nat} {t : Tok} (ht : ts[k]? = some t) (h : (t.off : Int) ≠ o) (hf : Found ts at_ F o k v) : Found ts at_ F o (k + 1) v := by
  rcases hf with ⟨m, u, h1, h2, h3, h4⟩ | ⟨h1, h2⟩
  · exact .inl ⟨m, u, by omega, h2, h3, h4⟩
  · refine .inr ⟨fun m u hm hu => ?_, h2⟩
    rcases Nat.lt_succ_iff_lt_or_eq.1 hm with h' | rfl
    · exact h1 m u h' hu
    · rw [ht] at hu; cases hu; exact h
theorem Found.done {src : List UInt8} {ts : List Tok} {p : Nat} (hlex : Lx.lex src = (ts, 0, p)) {at_ : Nat → Nat} {F v : Nat} {x y : D} (hf : Found ts at_ F x.off ts.length v) (hw : WhereAt ts at_ src.length F x y) : (x.err = 2 ∧ x.off = 0) ∨ y.off = (v : Int) := by
  obtain ⟨a1, a2⟩ := Lx.lex_off hlex
  rcases hw.2 with h | ⟨m, t, h1, h2, h3⟩ | ⟨h1, h2⟩
  · exact .inl h
  · right
    rcases hf with ⟨n, u, g1, g2, g3, g4⟩ | ⟨g1, g2⟩
    · obtain ⟨l1, e1⟩ := List.getElem?_eq_some_iff.1 h1
      obtain ⟨l2, e2⟩ := List.getElem?_eq_some_iff.1 g2
      have hmn : m = n := by
        rcases Nat.lt_trichotomy m n with h | h | h
        · have i1 := List.pairwise_iff_getElem.1 a1 m n l1 l2 h
          rw [e1, e2] at i1
          omega
        · exact h
        · have i1 := List.pairwise_iff_getElem.1 a1 n m l2 l1 h
          rw [e1, e2] at i1
          omega
      rw [h3, g4, hmn]
    · exact absurd h2.symm (g1 m t (List.getElem?_eq_some_iff.1 h1).1 h1)
  · right
    rcases hf with ⟨n, u, g1, g2, g3, g4⟩ | ⟨g1, g2⟩
    · have := a2 u (List.mem_of_getElem? g2)
      omega
    · rw [h2, g2]
theorem parse_num {l : List UInt8} {ts : List Tok} {p : Nat} (h : Lx.lex l = (ts, 0, p)) : (parse l).2.length ≤ 20 := by
  obtain ⟨a1, a2⟩ := Lx.lex_off h
  rw [parse_units h]
  split
  · exact by decide
  · exact (units_good a1 a2).num
end Go.Proofs.YtdiogcedlppioaaGreatDoor.Px
