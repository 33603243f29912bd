/-
  Parse on a source without diagnostics and on a beginning of it.
-/
import Derived.Test.YtbgpboiblggmiaaGreatDoorSzb
set_option linter.unusedVariables false
set_option linter.unusedSimpArgs false
namespace Go.Proofs.YtbgpboiblggmiaaGreatDoor.Px
open Lx (Tok)

mutual
theorem relT_eq : ∀ (t t' : T), RelT Eq t t' → t = t'
  | .mk k x y n l i g kids o, .mk k' x' y' n' l' i' g' kids' o', h => by
    unfold RelT at h
    obtain ⟨h1, h2, h3, h4, h5, h6, h7, h8, h9⟩ := h
    rw [h1, h2, h3, h4, h5, h6, h7, h8, relL_eq kids kids' h9]
theorem relL_eq : ∀ (l l' : List T), RelL Eq l l' → l = l'
  | [], [], _ => rfl
  | t :: r, t' :: r', h => by
    unfold RelL at h
    rw [relT_eq t t' h.1, relL_eq r r' h.2]
  | [], _ :: _, h => by unfold RelL at h; exact h.elim
  | _ :: _, [], h => by unfold RelL at h; exact h.elim
end
theorem sizes_front : ∀ (l m : List T), sizes l ≤ sizes (l ++ m)
  | [], m => by rw [sizes_nil]; omega
  | t :: l, m => by rw [List.cons_append, sizes, sizes]; have := sizes_front l m; omega
theorem depths_front : ∀ (l m : List T), depths l ≤ depths (l ++ m)
  | [], m => by rw [depths]; omega
  | t :: l, m => by rw [List.cons_append, depths, depths]; have := depths_front l m; exact Nat.max_le.2 ⟨Nat.le_max_left _ _, Nat.le_trans this (Nat.le_max_right _ _)⟩
theorem depths_of (k o : Int) (l : List T) : depth (T.of k o l) = 1 + depths l := by unfold T.of; rw [depth]
theorem fits_front {l m : List T} (h : fits (source (l ++ m)) = true) : fits (source l) = true := by
  unfold fits source at *
  rw [sizes_of, depths_of] at *
  simp only [Bool.and_eq_true, decide_eq_true_eq] at *
  have := sizes_front l m
  have := depths_front l m
  omega
/-- a source without diagnostics -/
theorem parse_clean {l : List UInt8} {ts : List Tok} {q : Nat} (h : Lx.lex l = (ts, 0, q)) (hd : (parse l).2 = []) :
    (units l.length ts).2.diags = [] ∧ fits (source (units l.length ts).1) = true ∧ parse l = (source (units l.length ts).1, []) := by
  rw [parse_units h] at hd
  by_cases h0 : (units l.length ts).2.diags = []
  · by_cases h1 : fits (source (units l.length ts).1) = true
    · refine ⟨h0, h1, ?_⟩
      rw [parse_units h, if_neg (fun hh => by rw [h1] at hh; cases hh.2), h0]
    · rw [if_pos ⟨h0, by simpa using h1⟩] at hd
      cases hd
  · rw [if_neg (fun hh => h0 hh.1)] at hd
    exact absurd hd h0
theorem good_start {E : Nat} {ts : List Tok} (h1 : ts.Pairwise (fun a b => a.off < b.off)) (h2 : ∀ t ∈ ts, t.off < E) : Good E (start ts) :=
  ⟨h1, h2, List.Pairwise.nil, (fun d hd => by cases hd), by simp [start], (fun d hd => by cases hd)⟩
theorem units_good {E : Nat} {ts : List Tok} (h1 : ts.Pairwise (fun a b => a.off < b.off)) (h2 : ∀ t ∈ ts, t.off < E) : Good E (units E ts).2 :=
  un_unitsGo (pinc E) (uns_unit (pinc E)) _ _ _ (good_start h1 h2)
theorem one_end {F : Nat} {l : List D} (hne : l ≠ []) (h : ∀ d ∈ l, At [] F d) (hp : l.Pairwise (fun a b => a.off < b.off)) : l = [⟨21, F⟩] := by
  have hA : ∀ d ∈ l, d = ⟨21, (F : Int)⟩ := fun d hd => by
    rcases h d hd with ⟨t, ht, _⟩ | h
    · cases ht
    · exact h
  match l, hne with
  | [d], _ => rw [hA d (by simp)]
  | d :: e :: r, _ =>
    rw [List.pairwise_cons] at hp
    have h1 := hp.1 e (by simp)
    rw [hA d (by simp), hA e (by simp)] at h1
    exact absurd h1 (by simp)

theorem truncated {src : List UInt8} {ts : List Tok} {q : Nat} (hl : Lx.lex src = (ts, 0, q)) (hd : (parse src).2 = []) {m : Nat} {t : Tok} (hm : ts[m]? = some t) :
    ∃ (ys more : List T) (e : List D), parse (src.take (t.off + t.text.length)) = (source ys, e) ∧ (parse src).1 = source (ys ++ more) ∧ (e = [] ∨ e = [⟨21, ((t.off + t.text.length : Nat) : Int)⟩]) := by
  obtain ⟨h1, h2⟩ := Lx.lex_prefix hl hm
  obtain ⟨s1, s2⟩ := Lx.lex_off hl
  obtain ⟨u1, u2, u3⟩ := parse_clean hl hd
  have hn : (src.take (t.off + t.text.length)).length = t.off + t.text.length := by rw [List.length_take]; omega
  have hc : ts = ts.take (m + 1) ++ ts.drop (m + 1) := (List.take_append_drop _ _).symm
  obtain ⟨F, hF⟩ : ∃ F, F = t.off + t.text.length := ⟨_, rfl⟩
  rw [← hF] at h1 h2 hn ⊢
  have hp : Good F (units F (ts.take (m + 1))).2 := by
    refine units_good (s1.sublist (List.take_sublist _ _)) (fun u hu => ?_)
    rw [List.mem_take_iff_getElem] at hu
    obtain ⟨i, hi, rfl⟩ := hu
    obtain ⟨hml, hme⟩ := List.getElem?_eq_some_iff.1 hm
    have hpos := (Lx.chain_off src ts 0 (Lx.lex_chain hl)).2 t (List.mem_of_getElem? hm)
    by_cases him : i = m
    · subst him; rw [hme]; omega
    · have := List.pairwise_iff_getElem.1 s1 i m (by omega) hml (by omega)
      rw [hme] at this
      omega
  have hs : Sim (same2 src.length F (ts.drop (m + 1)) []) (start ts) (start (ts.take (m + 1))) :=
    ⟨⟨ts.take (m + 1), ts.take (m + 1), relC_refl _, hc, (List.append_nil _).symm⟩, rfl, rfl⟩
  have hpar := parse_units h2
  rw [hn] at hpar
  rw [u3]
  rcases sim_units (same2_ok src.length F (ts.drop (m + 1)) []) (ts.length + 1) ((ts.take (m + 1)).length + 1) [] [] (start ts) (start (ts.take (m + 1))) (Nat.le_refl _) (Nat.le_refl _) (relL_nil _) hs with ⟨j, j', mm, mm', t1, t1', g⟩ | ⟨j, j', mm, mm', o, o', t1, t1', g⟩
  · have ge : units src.length ts = unitsGo (unit src.length) j mm t1 := g.e
    have ge' : units F (ts.take (m + 1)) = unitsGo (unit F) j' mm' t1' := g.e'
    have hx : t1'.toks = [] := g.y
    have hmm : mm = mm' := relL_eq _ _ g.rel
    have hdd : t1.diags = t1'.diags := g.sim.diags
    subst hmm
    obtain ⟨e, q1, _⟩ := units_px src.length j mm t1
    obtain ⟨more, q2⟩ := units_front (rd := unit src.length) j mm t1
    rw [units_nil _ _ hx] at ge'
    rw [← ge] at q1 q2
    rw [u1] at q1
    have ht0 : t1.diags = [] := by
      exact (List.append_eq_nil_iff.1 q1.symm).1
    rw [q2] at u2
    refine ⟨mm, more, [], ?_, by rw [q2], .inl rfl⟩
    rw [hpar, ge']
    simp only
    rw [if_neg (fun hh => by rw [fits_front u2] at hh; cases hh.2), ← hdd, ht0]
  · have ge : units src.length ts = unitsGo (unit src.length) j (Px.more mm o) t1 := g.e
    have ge' : units F (ts.take (m + 1)) = unitsGo (unit F) j' (Px.more mm' o') t1' := g.e'
    have hmm : mm = mm' := relL_eq _ _ g.rel
    obtain ⟨ho, hne⟩ := g.n' rfl
    have hx : t1'.toks = [] := List.suffix_nil.1 g.dv.t2
    subst hmm ho
    obtain ⟨e, q1, _⟩ := units_px src.length j (Px.more mm o) t1
    obtain ⟨more, q2⟩ := units_front (rd := unit src.length) j (Px.more mm o) t1
    rw [← ge] at q1 q2
    rw [u1] at q1
    have ht0 : t1.diags = [] := by
      exact (List.append_eq_nil_iff.1 q1.symm).1
    obtain ⟨l, l', f, f', hdd, r1, r2, r3, r4⟩ := g.dv.ds
    have hdd : l = l' := hdd
    have hl0 : l = [] := by
      rw [ht0] at r1
      exact (List.append_eq_nil_iff.1 r1.symm).1
    subst hdd hl0
    rw [units_nil _ _ hx] at ge'
    have hv : (units F (ts.take (m + 1))).2.diags = t1'.diags := by rw [ge']
    have hone : t1'.diags = [⟨21, (F : Int)⟩] := one_end hne (by rw [r2]; exact r4) (by rw [← hv]; exact hp.diags)
    obtain ⟨mo, hmo⟩ : ∃ mo, Px.more mm o ++ more = mm ++ mo := by
      cases o with
      | none => exact ⟨more, rfl⟩
      | some x => exact ⟨x :: more, by simp [Px.more]⟩
    refine ⟨mm, mo, [⟨21, (F : Int)⟩], ?_, by rw [q2, hmo], .inr rfl⟩
    rw [hpar, ge']
    simp only
    rw [if_neg (fun hh => hne hh.1), hone]
    rfl
end Go.Proofs.YtbgpboiblggmiaaGreatDoor.Px
