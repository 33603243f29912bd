/-
  Parsing two sources with a line feed between.
-/
import Derived.Test.YtbgpboiblggmiaaGreatDoorBza
set_option linter.unusedVariables false
set_option linter.unusedSimpArgs false
namespace Go.Proofs.YtbgpboiblggmiaaGreatDoor.Px
open Lx (Tok)

mutual
def shT (b : Int) : T → T
  | .mk k x y n l i g kids o => .mk k x y n l i g (shL b kids) (o + b)
def shL (b : Int) : List T → List T
  | [] => []
  | t :: r => shT b t :: shL b r
end
def shD (b : Int) (d : D) : D := ⟨d.err, d.off + b⟩
mutual
theorem relT_shift {b : Int} : ∀ (t t' : T), RelT (fun o o' => o' = o + b) t t' → t' = shT b t
  | .mk k x y n l i g kids o, .mk k' x' y' n' l' i' g' kids' o', h => by
    unfold RelT at h
    obtain ⟨h1, h2, h3, h4, h5, h6, h7, h8, h9⟩ := h
    rw [shT, ← h1, ← h2, ← h3, ← h4, ← h5, ← h6, ← h7, h8, relL_shift kids kids' h9]
theorem relL_shift {b : Int} : ∀ (l l' : List T), RelL (fun o o' => o' = o + b) l l' → l' = shL b l
  | [], [], _ => rfl
  | t :: r, t' :: r', h => by
    unfold RelL at h
    rw [shL, relT_shift t t' h.1, relL_shift r r' h.2]
  | [], _ :: _, h => by unfold RelL at h; exact h.elim
  | _ :: _, [], h => by unfold RelL at h; exact h.elim
end
theorem relDs_shift {b : Int} {l l' : List D} (h : RelDs (fun o o' => o' = o + b) l l') : l' = l.map (shD b) := by
  induction h with
  | nil => rfl
  | snoc l l' e o o' h ho ih => rw [List.map_append, ih, ho]; rfl
theorem units_init {rd : St → Res T} : ∀ (k : Nat) (l : List T) (s : St), unitsGo rd k l s = (l ++ (unitsGo rd k [] s).1, (unitsGo rd k [] s).2)
  | 0, l, s => by rw [unitsGo, unitsGo]; simp
  | k + 1, l, s => by
    by_cases h : s.toks = []
    · rw [units_nil _ _ h, units_nil _ _ h]; simp
    · rw [units_cons _ _ h, units_cons _ _ h, units_init k (more l (item rd false s).1), units_init k (more [] (item rd false s).1)]
      cases (item rd false s).1 with
      | none => simp [more]
      | some t => simp [more]

theorem concat_units {E F G : Nat} {ta tb : List Tok} (hd : (units E ta).2.diags = []) (hG : G = F + (E + 1)) :
    units G (ta ++ tb.map (Lx.shiftBy (E + 1))) = ((units E ta).1 ++ shL ((E + 1 : Nat) : Int) (units F tb).1, (units G (ta ++ tb.map (Lx.shiftBy (E + 1)))).2) ∧
    (units G (ta ++ tb.map (Lx.shiftBy (E + 1)))).2.diags = (units F tb).2.diags.map (shD ((E + 1 : Nat) : Int)) := by
  obtain ⟨tc, htc⟩ : ∃ tc, tc = tb.map (Lx.shiftBy (E + 1)) := ⟨_, rfl⟩
  rw [← htc]
  have hs : Sim (same2 E G [] tc) (start ta) (start (ta ++ tc)) := ⟨⟨ta, ta, relC_refl _, (List.append_nil _).symm, rfl⟩, rfl, rfl⟩
  have hz : Z0 (start ta) (start ta) := id
  rcases sim_units (same2_ok E G [] tc) (ta.length + 1) ((ta ++ tc).length + 1) [] [] (start ta) (start (ta ++ tc)) (Nat.le_refl _) (Nat.le_refl _) (relL_nil _) hs with ⟨j, j', m, m', t, t', g⟩ | ⟨j, j', m, m', o, o', t, t', g⟩
  · have ge : units E ta = unitsGo (unit E) j m t := g.e
    have ge' : units G (ta ++ tc) = unitsGo (unit G) j' m' t' := g.e'
    have hx : t.toks = [] := g.x
    have hy : t'.toks = tc := g.y
    have hmm : m = m' := relL_eq _ _ g.rel
    have hdd : t.diags = t'.diags := g.sim.diags
    subst hmm
    rw [units_nil _ _ hx] at ge
    rw [ge] at hd ⊢
    have hd : t.diags = [] := hd
    have hb : t.braces = 0 := by
      have h1 := z_unitsGo (zs_unit (E := E)) (ta.length + 1) [] (start ta) rfl
      have h2 : (units E ta).2.braces = 0 := h1
      rw [ge] at h2
      exact h2
    have hb' : t'.braces = 0 := by rw [← g.sim.braces]; exact hb
    have ht' : t' = start tc := by
      cases t'
      simp only at hy hb'
      have hd2 := hdd.symm.trans hd
      simp only at hd2
      rw [hy, hb', hd2]
      rfl
    have hj := g.hj'
    rw [ht'] at ge' hj
    -- the second source
    have hs2 : Sim ⟨F, G, fun o o' => o' = o + ((E + 1 : Nat) : Int), RelDs (fun o o' => o' = o + ((E + 1 : Nat) : Int)), [], []⟩ (start tb) (start tc) := by
      refine ⟨⟨tb, tc, relC_get tb tc (by rw [htc]; simp) (fun k t u ht hu => ?_), (List.append_nil _).symm, (List.append_nil _).symm⟩, rfl, .nil⟩
      rw [htc, List.getElem?_map, ht] at hu
      cases hu
      exact ⟨rfl, rfl, by simp [Lx.shiftBy]⟩
    have ok2 : (⟨F, G, fun o o' => o' = o + ((E + 1 : Nat) : Int), RelDs (fun o o' => o' = o + ((E + 1 : Nat) : Int)), [], []⟩ : Par).Ok := ⟨fun l l' e o o' h1 h2 => RelDs.report (fun ha hb => by omega) h1 e o o' h2⟩
    rw [units_init] at ge'
    rcases sim_units ok2 (tb.length + 1) j' [] [] (start tb) (start tc) (Nat.le_refl _) hj (relL_nil _) hs2 with ⟨i, i', n, n', v, v', q⟩ | ⟨i, i', n, n', o, o', v, v', q⟩
    · have qe : units F tb = unitsGo (unit F) i n v := q.e
      have qe' : unitsGo (unit G) j' [] (start tc) = unitsGo (unit G) i' n' v' := q.e'
      rw [units_nil _ _ q.x] at qe
      rw [units_nil _ _ q.y] at qe'
      rw [qe'] at ge'
      rw [ge', qe]
      simp only
      have r1 := relL_shift _ _ q.rel
      have r2 := relDs_shift q.sim.diags
      rw [r1]
      exact ⟨rfl, r2⟩
    · exact absurd ⟨rfl, rfl, by rw [hG]; simp⟩ q.dv.ns
  · exfalso
    have ge : units E ta = unitsGo (unit E) j (more m o) t := g.e
    have hx : t.toks = [] := List.suffix_nil.1 g.dv.t1
    rw [units_nil _ _ hx] at ge
    rw [ge] at hd
    exact (g.n rfl).2 hd
/-- two sources with a line feed between, the first without diagnostics -/
theorem concat {a b : List UInt8} {ta tb tc : List Tok} {p q r : Nat} (ha : Lx.lex a = (ta, 0, p)) (hb : Lx.lex b = (tb, 0, q)) (hc : Lx.lex (a ++ 10 :: b) = (tc, 0, r)) (hd : (parse a).2 = []) :
    ∃ xs ys e, parse a = (source xs, []) ∧ parse b = (source ys, e) ∧
      ((e = [⟨2, 0⟩]) ∨ (e = [] ∧ fits (source (xs ++ shL ((a.length + 1 : Nat) : Int) ys)) = false ∧ parse (a ++ 10 :: b) = (source [], [⟨2, 0⟩])) ∨
        ((e = [] → fits (source (xs ++ shL ((a.length + 1 : Nat) : Int) ys)) = true) ∧ parse (a ++ 10 :: b) = (source (xs ++ shL ((a.length + 1 : Nat) : Int) ys), e.map (shD ((a.length + 1 : Nat) : Int))))) := by
  obtain ⟨u1, u2, u3⟩ := parse_clean ha hd
  obtain ⟨_, hl, _⟩ := Lx.lex_go hc
  have hl2 : a.length + 1 + b.length ≤ 4000 := by rw [List.length_append, List.length_cons] at hl; omega
  have htc : tc = ta ++ tb.map (Lx.shiftBy (a.length + 1)) := by
    rcases Lx.lex_concat ha hb hl2 with ⟨k, h1, _⟩ | ⟨h0, h1⟩ | ⟨_, h1⟩
    · rw [h1] at hc; cases hc
    · exact absurd rfl h0
    · rw [h1] at hc; cases hc; rfl
  subst htc
  have hG : (a ++ 10 :: b).length = b.length + (a.length + 1) := by rw [List.length_append, List.length_cons]; omega
  obtain ⟨c1, c2⟩ := concat_units (E := a.length) (F := b.length) (G := (a ++ 10 :: b).length) (ta := ta) (tb := tb) u1 hG
  have c3 : (units (a ++ 10 :: b).length (ta ++ tb.map (Lx.shiftBy (a.length + 1)))).1 = (units a.length ta).1 ++ shL ((a.length + 1 : Nat) : Int) (units b.length tb).1 := by rw [c1]
  obtain ⟨by1, hby⟩ : ∃ x, x = ((a.length + 1 : Nat) : Int) := ⟨_, rfl⟩
  rw [← hby] at c2 c3 ⊢
  have hpc := parse_units hc
  rw [c2, c3] at hpc
  have hpb := parse_units hb
  by_cases hE : (units b.length tb).2.diags = []
  · by_cases hf : fits (source (units b.length tb).1) = false
    · rw [if_pos ⟨hE, hf⟩] at hpb
      exact ⟨_, _, _, u3, hpb, .inl rfl⟩
    · rw [if_neg (fun h => hf h.2), hE] at hpb
      refine ⟨_, _, _, u3, hpb, .inr ?_⟩
      rw [hE] at hpc
      by_cases hf2 : fits (source ((units a.length ta).1 ++ shL by1 (units b.length tb).1)) = false
      · rw [if_pos ⟨rfl, hf2⟩] at hpc
        exact .inl ⟨rfl, hf2, hpc⟩
      · rw [if_neg (fun h => hf2 h.2)] at hpc
        exact .inr ⟨fun _ => by simpa using hf2, hpc⟩
  · rw [if_neg (fun h => hE h.1)] at hpb
    rw [if_neg (fun h => hE (List.map_eq_nil_iff.1 h.1))] at hpc
    exact ⟨_, _, _, u3, hpb, .inr (.inr ⟨fun h => absurd h hE, hpc⟩)⟩
end Go.Proofs.YtbgpboiblggmiaaGreatDoor.Px
