/-
  A wrong item before an item of a source or at its end: the tree is the same.
-/
import Derived.Test.YtdiogcedlppioaaGreatDoorQRcg
set_option linter.unusedVariables false
set_option linter.unusedSimpArgs false
namespace Go.Proofs.YtdiogcedlppioaaGreatDoor.Px
open Lx (Tok)
variable {E F : Nat} {Q S : Tok} {yr : List Tok} {tx : Tok} {xr : List Tok}

theorem ins_unit (H : Hx (tx :: xr) Q S yr) (hx : (tx :: xr).Pairwise (fun a b => a.off < b.off)) (N N' : Nat) : Rds E F tx xr Q S yr N N' (unit E) (unit F) := by
  refine ⟨uns_unit (px E), uns_unit (px F), takes_unit, takes_unit, zs_unit, unit_off.2, unit_off.1, bad_unit H.q, ?_, ?_, ?_, ?_⟩
  · intro s s' h1 h2 ne h
    exact relj_unit ok1 h
  · intro s s' h1 h2 h
    exact (relj_unit ok1 h).rel
  · intro s s' h1 h2 h
    exact (relj_unit ok2 h).rel
  · intro s s' t s9 hN hN' h hz hp e hd hi
    have L := not_edge hx h (unit_off.2 _ _ _ e _ hi)
    unfold unit at e ⊢
    have hacc : ∀ w, accepts F w s' = accepts E w s := fun w => L.acc w
    simp only [hacc]
    by_cases hc : accepts E [109, 111, 100, 117, 108, 101] s = true
    · rw [if_pos hc] at e ⊢
      unfold module at e ⊢
      obtain ⟨a1, s1, e1, e⟩ := bind_inv e
      obtain ⟨a2, s2, e2, e⟩ := bind_inv e
      obtain ⟨a3, s3, e3, e⟩ := bind_inv e
      obtain ⟨a4, s4, e4, e⟩ := bind_inv e
      cases e
      rw [itemsT] at hi
      have f1 := st_suf (suf_name (rest s)) e1
      have f2 := st_suf (suf_expect _ s1) e2
      have f3 := st_suf (suf_name s2) e3
      have h3a := pos_list declaration_off.2 declaration_off.1 takes_declaration e4 _ hi
      have h2a := h3a.mono (rest_mono f3)
      have h1a := h2a.mono (rest_mono f2)
      have z1 : s1.braces = 0 := z_name (rest s) _ _ e1 hz
      have z2 : s2.braces = 0 := z_expect _ s1 _ _ e2 z1
      have z3 : s3.braces = 0 := z_name s2 _ _ e3 z2
      obtain ⟨a1', s1', r1, v1, h1⟩ := only_ok hx (sim_name L.next) e1 h1a
      have r1 : name F (rest s') = .ok a1' s1' := r1
      obtain ⟨a2', s2', r2, v2, h2⟩ := only_ok hx (sim_expect _ h1) e2 h2a
      have r2 : expect F [111, 119, 110, 101, 114] s1' = .ok a2' s2' := r2
      obtain ⟨a3', s3', r3, v3, h3⟩ := only_ok hx (sim_name h2) e3 h3a
      have r3 : name F s2' = .ok a3' s3' := r3
      obtain ⟨a4', s4', r4, v4, h4⟩ := ins_list H hx (ins_declaration H hx (left s3) (left s3')) (by omega) (by omega) h3 z3 ((hp.sublist (suf_rest s).sublist).sublist (f3.trans (f2.trans f1)).sublist) e4 hd hi
      refine ⟨.mk 60 a1' a3' 0 0 0 false a4' (offOf F s'), s4', ?_, ?_, h4⟩
      · rw [r1, Res.bind_ok, r2, Res.bind_ok, r3, Res.bind_ok, r4]; rfl
      · rw [v1, v3]; exact relT_mk trivial v4
    · exfalso
      rw [if_neg hc] at e
      unfold thread at e
      obtain ⟨a1, s1, e1, e⟩ := bind_inv e
      obtain ⟨a2, s2, e2, e⟩ := bind_inv e
      obtain ⟨a3, s3, e3, e⟩ := bind_inv e
      obtain ⟨a4, s4, e4, e⟩ := bind_inv e
      obtain ⟨a5, s5, e5, e⟩ := bind_inv e
      obtain ⟨a6, s6, e6, e⟩ := bind_inv e
      cases e
      refine ni_no (ni_mk rfl (tuple_ni (fun _ _ _ h => ?_) e5)) hi
      unfold numeral at h
      obtain ⟨a7, s7, e7, h⟩ := bind_inv h
      cases h
      exact ni_mk rfl nil_nil

theorem units_two {j j' : Nat} {m m' : List T} {t t' : St} (hj : left t + 1 ≤ j) (hj' : left t' + 1 ≤ j') (hm : RelL tt m m') (h : Sim (P2 E F Q) t t') (hd : (unitsGo (unit E) j m t).2.diags = []) :
    RelL tt (unitsGo (unit E) j m t).1 (unitsGo (unit F) j' m' t').1 ∧ (unitsGo (unit F) j' m' t').2.diags = [⟨20, (Q.off : Int)⟩] := by
  rcases sim_units ok2 j j' m m' t t' hj hj' hm h with ⟨i, i', n, n', v, v', g⟩ | ⟨i, i', n, n', o, o', v, v', g⟩
  · have ge : unitsGo (unit E) j m t = unitsGo (unit E) i n v := g.e
    have ge' : unitsGo (unit F) j' m' t' = unitsGo (unit F) i' n' v' := g.e'
    rw [units_nil _ _ g.x] at ge
    rw [units_nil _ _ g.y] at ge'
    rw [ge] at hd ⊢
    rw [ge']
    refine ⟨g.rel, ?_⟩
    rcases (show (v.diags = [] ∧ v'.diags = [⟨20, (Q.off : Int)⟩]) ∨ v.diags ≠ [] from g.sim.diags) with h1 | h1
    · exact h1.2
    · exact absurd hd h1
  · exact absurd ⟨rfl, rfl, trivial⟩ g.dv.ns
theorem pos_units : ∀ (k : Nat) (l : List T) (s : St), ∃ m2, (unitsGo (unit E) k l s).1 = l ++ m2 ∧ ∀ i ∈ itemsG true m2, AtTok i s.toks
  | 0, l, s => ⟨[], by rw [unitsGo]; simp, fun i hi => by rw [itemsG] at hi; cases hi⟩
  | k + 1, l, s => by
    by_cases hn : s.toks = []
    · exact ⟨[], by rw [units_nil _ _ hn]; simp, fun i hi => by rw [itemsG] at hi; cases hi⟩
    · rw [units_cons _ _ hn]
      obtain ⟨m2, h1, h2⟩ := pos_units k (more l (item (unit E) false s).1) (item (unit E) false s).2
      unfold item at h1 h2 ⊢
      cases hr : unit E s with
      | ok t s2 =>
        rw [hr] at h1 h2
        have hsuf := st_suf (takes_unit.suf s) hr
        refine ⟨t :: m2, by rw [h1]; simp [more], fun i hi => ?_⟩
        rw [itemsG] at hi
        rcases List.mem_append.1 hi with hi | hi
        · rcases List.mem_append.1 hi with hi | hi
          · simp only [if_true, List.mem_singleton] at hi
            rw [hi]
            exact beg_tok unit_off.1 hr
          · exact (unit_off.2 s t s2 hr i hi).mono (suf_rest s)
        · exact (h2 i hi).mono hsuf
      | bad d s2 =>
        rw [hr] at h1 h2
        have hsuf : s2.toks <:+ s.toks := by have := (takes_unit (E := E)).suf s; rw [hr] at this; exact this
        exact ⟨m2, h1, fun i hi => (h2 i hi).mono ((skip_suf _ _ _).trans hsuf)⟩
theorem ud_back {k : Nat} {l : List T} {s : St} (h : (unitsGo (unit E) k l s).2.diags = []) : s.diags = [] := by
  obtain ⟨ext, h1, _⟩ := units_px E k l s
  exact (List.append_eq_nil_iff.1 (h1.symm.trans h)).1
set_option maxRecDepth 100000 in
set_option maxHeartbeats 1000000 in
theorem ins_units (H : Hx (tx :: xr) Q S yr) (hx : (tx :: xr).Pairwise (fun a b => a.off < b.off)) : ∀ (k k' : Nat) (l l' : List T) (s s' : St), left s + 1 ≤ k → left s' + 1 ≤ k' → RelL tt l l' → Sim (P1 E F (tx :: xr) Q S yr) s s' → s.braces = 0 →
    s.toks.Pairwise (fun a b => a.off < b.off) → (unitsGo (unit E) k l s).2.diags = [] → (∃ m2, (unitsGo (unit E) k l s).1 = l ++ m2 ∧ (tx.off : Int) ∈ itemsG true m2) →
    RelL tt (unitsGo (unit E) k l s).1 (unitsGo (unit F) k' l' s').1 ∧ (unitsGo (unit F) k' l' s').2.diags = [⟨20, (Q.off : Int)⟩]
  | 0, _, _, _, _, _, hk, _, _, _, _, _, _, _ => absurd hk (by omega)
  | _ + 1, 0, _, _, _, _, _, hk, _, _, _, _, _, _ => absurd hk (by omega)
  | k + 1, k' + 1, l, l', s, s', hk, hk', hl, h, hz, hp, hd, ⟨m2, hm, hi⟩ => by
    have hsd := ud_back hd
    obtain ⟨c, c', hcc, q1, q2⟩ := h.toks
    cases c with
    | nil =>
      cases c' with
      | cons _ _ => unfold RelC at hcc; exact hcc.elim
      | nil =>
        have hxs : s.toks = tx :: xr := q1
        have hys : s'.toks = Q :: S :: yr := q2
        obtain ⟨g1, g2⟩ := step_q H (bad_unit (F := F) H.q) false h hxs hys hz hsd
        have hl2 : left s' = yr.length + 2 := by unfold left; rw [hys]; simp
        rw [units_cons (rd := unit F) k' l' (by rw [hys]; simp), g1]
        exact units_two hk (by show yr.length + 1 ≤ k'; omega) hl g2 hd
    | cons u q =>
      have hst : s.toks = u :: (q ++ tx :: xr) := q1
      have hlt : u.off < tx.off := by rw [hst] at hp; exact (List.pairwise_cons.1 hp).1 tx (by simp)
      have hne : s.toks ≠ [] := by rw [hst]; simp
      have L : Live (P1 E F (tx :: xr) Q S yr) s s' := by
        rcases sim_edge h with L | ⟨hx, _⟩
        · exact L
        · have hx : s.toks = tx :: xr := hx
          rw [hx] at hst
          have := congrArg List.length hst
          simp at this
          omega
      have hn' : s'.toks ≠ [] := fun h' => hne (L.nil.2 h')
      have l1' := item_left (E := F) (takes_unit (E := F)) (b := false) hn' (.inl rfl)
      rw [units_cons _ _ hne] at hd hm ⊢
      rw [units_cons _ _ hn']
      unfold item at hd hm
      have hit0 : item (unit E) false s = match unit E s with | .ok t s1 => (some t, s1) | .bad d s1 => (.none, ⟨skipGo false s1.toks s1.braces, 0, report d s1.diags⟩) := rfl
      cases hr : unit E s with
      | bad d s2 =>
        exfalso
        rw [hr] at hd
        exact report_ne _ _ (ud_back hd)
      | ok t s2 =>
        rw [hr] at hd hm hit0
        simp only at hit0
        rw [hit0]
        simp only [more] at hd hm ⊢
        have l1 := takes_unit.lt _ _ _ hr
        have hsuf := st_suf (takes_unit.suf s) hr
        obtain ⟨m3, hm3, hpos⟩ := pos_units (E := E) k (l ++ [t]) s2
        have hm2 : m2 = t :: m3 := by
          rw [hm, List.append_assoc] at hm3
          exact List.append_cancel_left hm3
        rw [hm2, itemsG] at hi
        have hs2d := ud_back hd
        rcases List.mem_append.1 hi with hi | hi
        · rcases List.mem_append.1 hi with hi | hi
          · exfalso
            simp only [if_true, List.mem_singleton] at hi
            have ho := (unit_off.1 s t s2 hr).1
            unfold offOf peek at ho
            rw [hst] at ho
            simp only at ho
            omega
          · obtain ⟨t', s2', r1, r2, r3⟩ := (ins_unit H hx (left s) (left s')).ins s s' t s2 (Nat.le_refl _) (Nat.le_refl _) h hz hp hr hs2d hi
            have hit : item (unit F) false s' = (some t', s2') := by unfold item; rw [r1]
            rw [hit] at l1' ⊢
            simp only [more] at l1' ⊢
            exact units_two (by omega) (by omega) (relL_snoc _ _ hl r2) r3 hd
        · have hat := hpos _ hi
          have hJ := relj_unit (ok1 (E := E) (F := F)) h
          cases hJ with
          | ok b b' v v' e1 e2 vv hh =>
            have e1 : unit E s = .ok b v := e1
            have e2 : unit F s' = .ok b' v' := e2
            rw [hr] at e1
            cases e1
            have hit : item (unit F) false s' = (some b', v') := by unfold item; rw [e2]
            rw [hit] at l1' ⊢
            simp only [more] at l1' ⊢
            exact ins_units H hx k k' _ _ _ _ (by omega) (by omega) (relL_snoc _ _ hl vv) hh (zs_unit s t s2 hr hz) (hp.sublist hsuf.sublist) hd ⟨m3, hm3, hi⟩
          | bad d d' v v' e1 e2 he ho hh =>
            have e1 : unit E s = .bad d v := e1
            rw [hr] at e1
            cases e1
          | dv hh uu uu' n =>
            exfalso
            have hh : Dv (P1 E F (tx :: xr) Q S yr) (unit E s).st (unit F s').st := hh
            rw [hr] at hh
            have h7 : s2.toks <:+ tx :: xr := hh.t1
            have h8 : left s2 < (tx :: xr).length := n t s2 hr
            have h9 : s2.toks <:+ xr := by
              rcases List.suffix_cons_iff.1 h7 with h' | h'
              · unfold left at h8; rw [h'] at h8; exact absurd h8 (by omega)
              · exact h'
            exact no_tok hx h9 hat

theorem relC_tt : ∀ (c c' : List Tok), c.length = c'.length → (∀ (m : Nat) (t u : Tok), c[m]? = some t → c'[m]? = some u → t.kind = u.kind ∧ t.text = u.text) → RelC tt c c' := fun c c' hl h => relC_get c c' hl (fun m t u ht hu => ⟨(h m t u ht hu).1, (h m t u ht hu).2, trivial⟩)
theorem relC_self (c : List Tok) : RelC tt c c := relC_tt c c rfl (fun m t u ht hu => by rw [ht] at hu; cases hu; exact ⟨rfl, rfl⟩)
theorem relC_shift (c : List Tok) (d : Nat) : RelC tt c (c.map (Lx.shiftBy d)) := relC_tt c _ (by simp) (fun m t u ht hu => by rw [List.getElem?_map, ht] at hu; cases hu; exact ⟨rfl, rfl⟩)

/-- a wrong item before an item -/
theorem recovery_in {src : List UInt8} {ts us : List Tok} {p q : Nat} {xs : List T} (hl : Lx.lex src = (ts, 0, p)) (hd : parse src = (source xs, [])) {i : Int} (hi : i ∈ itemsG true xs) :
    ∃ at' : Nat, i = at' ∧ at' < src.length ∧ (Lx.lex (src.take at' ++ ([63, 59, 32] ++ src.drop at')) = (us, 0, q) → ∃ ys, parse (src.take at' ++ ([63, 59, 32] ++ src.drop at')) = (source ys, [⟨20, (at' : Int)⟩]) ∧ RelL tt xs ys) := by
  obtain ⟨u1, u2, u3⟩ := parse_clean hl (by rw [hd])
  have hxs : (units src.length ts).1 = xs := by
    rw [hd] at u3
    have := (Prod.mk.inj u3).1
    unfold source T.of at this
    injection this with _ _ _ _ _ _ _ h _
    exact h.symm
  obtain ⟨m2, h1, h2⟩ := pos_units (E := src.length) (ts.length + 1) [] (start ts)
  rw [List.nil_append] at h1
  have hm2 : m2 = xs := h1.symm.trans hxs
  rw [hm2] at h2
  obtain ⟨t, ht, ho, _⟩ := h2 i hi
  have ht : t ∈ ts := ht
  obtain ⟨m, hm⟩ := List.getElem?_of_mem ht
  obtain ⟨s1, s2⟩ := Lx.lex_off hl
  refine ⟨t.off, ho.symm, s2 t ht, fun hu => ?_⟩
  have hus := Lx.lex_insert hl hm hu
  obtain ⟨F, hF⟩ : ∃ F, F = (src.take t.off ++ ([63, 59, 32] ++ src.drop t.off)).length := ⟨_, rfl⟩
  have hdm : ts.drop m = t :: ts.drop (m + 1) := by
    obtain ⟨hk, rfl⟩ := List.getElem?_eq_some_iff.1 hm
    exact List.drop_eq_getElem_cons hk
  have hc : ts = ts.take m ++ (t :: ts.drop (m + 1)) := by rw [← hdm]; exact (List.take_append_drop _ _).symm
  have hpx : (t :: ts.drop (m + 1)).Pairwise (fun a b => a.off < b.off) := by rw [← hdm]; exact s1.sublist (List.drop_sublist _ _)
  have H : Hx (t :: ts.drop (m + 1)) ⟨3, [63], t.off⟩ ⟨3, [59], t.off + 1⟩ ((ts.drop m).map (Lx.shiftBy 3)) := ⟨⟨rfl, rfl⟩, rfl, by rw [hdm]; exact relC_shift _ 3⟩
  have hs : Sim (P1 src.length F (t :: ts.drop (m + 1)) ⟨3, [63], t.off⟩ ⟨3, [59], t.off + 1⟩ ((ts.drop m).map (Lx.shiftBy 3))) (start ts) (start us) :=
    ⟨⟨ts.take m, ts.take m, relC_self _, hc, hus⟩, rfl, .inl ⟨rfl, rfl⟩⟩
  obtain ⟨r1, r2⟩ := ins_units H hpx (ts.length + 1) (us.length + 1) [] [] (start ts) (start us) (Nat.le_refl _) (Nat.le_refl _) (relL_nil _) hs rfl s1 u1 ⟨xs, by rw [List.nil_append]; exact hxs, by rw [ho]; exact hi⟩
  have r1 : RelL tt (units src.length ts).1 (units F us).1 := r1
  have r2 : (units F us).2.diags = [⟨20, (t.off : Int)⟩] := r2
  rw [hxs] at r1
  rw [hF] at r1 r2
  exact ⟨_, by rw [parse_diags hu (by rw [r2]; simp), r2], r1⟩
/-- a wrong item at the end -/
theorem recovery_end {src : List UInt8} {ts us : List Tok} {p q : Nat} {xs : List T} (hl : Lx.lex src = (ts, 0, p)) (hd : parse src = (source xs, [])) (hu : Lx.lex (src ++ 10 :: [63, 59, 32]) = (us, 0, q)) :
    ∃ ys, parse (src ++ 10 :: [63, 59, 32]) = (source ys, [⟨20, ((src.length + 1 : Nat) : Int)⟩]) ∧ RelL tt xs ys := by
  obtain ⟨u1, u2, u3⟩ := parse_clean hl (by rw [hd])
  have hxs : (units src.length ts).1 = xs := by
    rw [hd] at u3
    have := (Prod.mk.inj u3).1
    unfold source T.of at this
    injection this with _ _ _ _ _ _ _ h _
    exact h.symm
  have hb : Lx.lex [63, 59, 32] = ([⟨3, [63], 0⟩, ⟨3, [59], 1⟩], 0, 0) := by decide
  obtain ⟨_, hlen, _⟩ := Lx.lex_go hu
  have hus : us = ts ++ [⟨3, [63], src.length + 1⟩, ⟨3, [59], src.length + 2⟩] := by
    rcases Lx.lex_concat hl hb (by rw [List.length_append] at hlen; simpa using hlen) with ⟨k, h1, _⟩ | ⟨h0, _⟩ | ⟨_, h1⟩
    · rw [h1] at hu; cases hu
    · exact absurd rfl h0
    · rw [h1] at hu
      cases hu
      simp [Lx.shiftBy]
      omega
  obtain ⟨F, hF⟩ : ∃ F, F = (src ++ 10 :: [63, 59, 32]).length := ⟨_, rfl⟩
  have H : Hx [] ⟨3, [63], src.length + 1⟩ ⟨3, [59], src.length + 2⟩ [] := ⟨⟨rfl, rfl⟩, rfl, relC_self []⟩
  have hs : Sim (P1 src.length F [] ⟨3, [63], src.length + 1⟩ ⟨3, [59], src.length + 2⟩ []) (start ts) (start us) :=
    ⟨⟨ts, ts, relC_self _, (List.append_nil _).symm, hus⟩, rfl, .inl ⟨rfl, rfl⟩⟩
  rcases sim_units ok1 (ts.length + 1) (us.length + 1) [] [] (start ts) (start us) (Nat.le_refl _) (Nat.le_refl _) (relL_nil _) hs with ⟨j, j', mm, mm', t1, t1', g⟩ | ⟨j, j', mm, mm', o, o', t1, t1', g⟩
  · have ge : units src.length ts = unitsGo (unit src.length) j mm t1 := g.e
    have ge' : units F us = unitsGo (unit F) j' mm' t1' := g.e'
    have hx1 : t1.toks = [] := g.x
    have hy1 : t1'.toks = [⟨3, [63], src.length + 1⟩, ⟨3, [59], src.length + 2⟩] := g.y
    rw [units_nil _ _ hx1] at ge
    have hd1 : t1.diags = [] := by rw [ge] at u1; exact u1
    have hz1 : t1.braces = 0 := by
      have h1 := z_unitsGo (zs_unit (E := src.length)) (ts.length + 1) [] (start ts) rfl
      have h2 : (units src.length ts).2.braces = 0 := h1
      rw [ge] at h2
      exact h2
    obtain ⟨g1, g2⟩ := step_q H (bad_unit (F := F) (Q := ⟨3, [63], src.length + 1⟩) ⟨rfl, rfl⟩) false g.sim hx1 hy1 hz1 hd1
    have hj' := g.hj'
    obtain ⟨i', rfl⟩ : ∃ i, j' = i + 1 := ⟨j' - 1, by omega⟩
    rw [units_cons _ _ (by rw [hy1]; simp), g1, units_nil _ _ rfl] at ge'
    have r1 : (units F us).1 = mm' := by rw [ge']; rfl
    have r2 : (units F us).2.diags = [⟨20, ((src.length + 1 : Nat) : Int)⟩] := by rw [ge']
    have r3 : mm = xs := by rw [← hxs, ge]
    rw [hF] at r1 r2
    refine ⟨mm', ?_, by rw [← r3]; exact g.rel⟩
    rw [parse_diags hu (by rw [r2]; simp), r2, r1]
  · exfalso
    have ge : units src.length ts = unitsGo (unit src.length) j (more mm o) t1 := g.e
    have hx1 : t1.toks = [] := List.suffix_nil.1 g.dv.t1
    rw [units_nil _ _ hx1] at ge
    rw [ge] at u1
    exact (g.n rfl).2 u1
end Go.Proofs.YtdiogcedlppioaaGreatDoor.Px

