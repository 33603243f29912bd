/-
  A wrong item before an item: the run goes on behind it as if it were not there.
-/
import Derived.Test.YtdiogcedlppioaaGreatDoorQRcd
set_option linter.unusedVariables false
set_option linter.unusedSimpArgs false
namespace Go.Proofs.YtdiogcedlppioaaGreatDoor.Px
open Lx (Tok)

def tt : Int → Int → Prop := fun _ _ => True
def P1 (E F : Nat) (x : List Tok) (Q S : Tok) (yr : List Tok) : Par := ⟨E, F, tt, fun l l' => (l = [] ∧ l' = []) ∨ l ≠ [], x, Q :: S :: yr⟩
def P2 (E F : Nat) (Q : Tok) : Par := ⟨E, F, tt, fun l l' => (l = [] ∧ l' = [⟨20, (Q.off : Int)⟩]) ∨ l ≠ [], [], []⟩
theorem ok1 {E F : Nat} {x : List Tok} {Q S : Tok} {yr : List Tok} : (P1 E F x Q S yr).Ok := ⟨fun l l' e o o' _ _ => .inr (report_ne _ _)⟩
theorem ok2 {E F : Nat} {Q : Tok} : (P2 E F Q).Ok := ⟨fun l l' e o o' _ _ => .inr (report_ne _ _)⟩
structure Hx (x : List Tok) (Q S : Tok) (yr : List Tok) : Prop where
  q : Q.kind = 3 ∧ Q.text = [63]
  s : S.text = [59]
  r : RelC tt x yr
variable {E F : Nat} {x : List Tok} {Q S : Tok} {yr : List Tok}

theorem acc_q {s : St} {r : List Tok} (hs : s.toks = Q :: r) (hq : Q.text = [63]) {w : Str} (hw : w ≠ [63]) : accepts F w s = false := by
  unfold accepts text peek
  rw [hs]
  simp only
  rw [hq]
  exact beq_eq_false_iff_ne.2 (fun h => hw h.symm)
theorem wrong_q {α : Type} {s : St} {r : List Tok} (hs : s.toks = Q :: r) : (wrong F s : Res α) = .bad ⟨20, (Q.off : Int)⟩ s := by
  unfold wrong wrongD offOf peek
  rw [hs]
theorem name_q {s : St} {r : List Tok} (hs : s.toks = Q :: r) (hq : Q.kind = 3) : name F s = .bad ⟨20, (Q.off : Int)⟩ s := by
  unfold name
  rw [if_neg (by unfold kindOf peek; rw [hs]; simp only; rw [hq]; simp), wrong_q hs]
def BadQ (F : Nat) (Q : Tok) (rd : St → Res T) : Prop := ∀ (s : St) (r : List Tok), s.toks = Q :: r → rd s = .bad ⟨20, (Q.off : Int)⟩ s
theorem bad_field (hq : Q.kind = 3) : BadQ F Q (field F) := fun s r hs => by
  unfold field typed
  rw [name_q hs hq]
  rfl
theorem bad_statement (hq : Q.kind = 3 ∧ Q.text = [63]) (k : Nat) : BadQ F Q (statement F (k + 1)) := fun s r hs => by
  have ha : ∀ {w : Str}, w ≠ [63] → ¬ accepts F w s = true := fun hw => by rw [acc_q hs hq.2 hw]; decide
  rw [statement]
  rw [if_neg (ha (by decide)), if_neg (ha (by decide)), if_neg (ha (by decide)), if_neg (ha (by decide)), if_neg (ha (by decide)), if_neg (ha (by decide)), if_neg (ha (by decide)), if_neg (ha (by decide)), if_neg (ha (by decide)), if_neg (ha (by decide)),
    if_neg (ha (by decide)), if_neg (ha (by decide)), if_neg (ha (by decide)), if_neg (fun h => h.elim (ha (by decide)) (ha (by decide)))]
  unfold assignment accepted
  rw [if_neg (ha (by decide))]
  unfold assign refr
  rw [show fuel s = (6 * s.toks.length + 5) + 1 from rfl, run]
  unfold pvar path
  rw [name_q hs hq.1]
  rfl
theorem bad_declaration (hq : Q.kind = 3 ∧ Q.text = [63]) : BadQ F Q (declaration F) := fun s r hs => by
  have ha : ∀ {w : Str}, w ≠ [63] → ¬ accepts F w s = true := fun hw => by rw [acc_q hs hq.2 hw]; decide
  unfold declaration
  rw [if_neg (ha (by decide)), if_neg (ha (by decide)), if_neg (ha (by decide)), if_neg (ha (by decide)), if_neg (ha (by decide)), if_neg (ha (by decide))]
  unfold shared accepted
  rw [if_neg (ha (by decide))]
  unfold expect
  rw [if_neg (ha (by decide)), wrong_q hs]
  rfl
theorem bad_unit (hq : Q.kind = 3 ∧ Q.text = [63]) : BadQ F Q (unit F) := fun s r hs => by
  have ha : ∀ {w : Str}, w ≠ [63] → ¬ accepts F w s = true := fun hw => by rw [acc_q hs hq.2 hw]; decide
  unfold unit
  rw [if_neg (ha (by decide))]
  unfold thread accepted
  rw [if_neg (ha (by decide))]
  unfold expect
  rw [if_neg (ha (by decide)), wrong_q hs]
  rfl
theorem skip_q (q : Bool) (hq : Q.text = [63]) (hs : S.text = [59]) : skipGo q (Q :: S :: yr) 0 = yr := by
  rw [skipGo.eq_def]
  simp only
  rw [hq, if_neg (by simp), if_neg (by decide), if_neg (by decide), if_neg (by simp), skipGo.eq_def]
  simp only
  rw [hs, if_neg (by simp), if_neg (by decide), if_neg (by decide), if_pos (by simp)]
/-- at the edge the second run reads the wrong item -/
theorem step_q (H : Hx x Q S yr) {rd' : St → Res T} (hb : BadQ F Q rd') (q : Bool) {s s' : St} (h : Sim (P1 E F x Q S yr) s s') (hx : s.toks = x) (hy : s'.toks = Q :: S :: yr) (h0 : s.braces = 0) (hd : s.diags = []) :
    item rd' q s' = (.none, ⟨yr, 0, [⟨20, (Q.off : Int)⟩]⟩) ∧ Sim (P2 E F Q) s ⟨yr, 0, [⟨20, (Q.off : Int)⟩]⟩ := by
  have hb0 : s'.braces = 0 := h.braces.symm.trans h0
  have hd' : s'.diags = [] := by
    rcases (show (s.diags = [] ∧ s'.diags = []) ∨ s.diags ≠ [] from h.diags) with h1 | h1
    · exact h1.2
    · exact absurd hd h1
  constructor
  · unfold item
    rw [hb s' _ hy]
    simp only
    rw [hy, hb0, hd', skip_q q H.q.2 H.s]
    rfl
  · exact ⟨⟨x, yr, H.r, by rw [hx]; exact (List.append_nil _).symm, (List.append_nil _).symm⟩, h0, .inl ⟨hd, rfl⟩⟩

theorem two_ok {α β : Type} {V : α → β → Prop} {r : Res α} {r' : Res β} (h : Rel (P2 E F Q) V r r') {a : α} {s : St} (e : r = .ok a s) : ∃ a' s', r' = .ok a' s' ∧ V a a' ∧ Sim (P2 E F Q) s s' := by
  cases h with
  | ok b b' t t' e1 e2 v h => rw [e1] at e; cases e; exact ⟨b', t', e2, v, h⟩
  | bad d d' t t' e1 e2 he ho h => rw [e1] at e; cases e
  | dv h u u' => exact absurd ⟨rfl, rfl, trivial⟩ h.ns
theorem two_live {s s' : St} (h : Sim (P2 E F Q) s s') : Live (P2 E F Q) s s' := by
  rcases sim_cases h with L | hd
  · exact L
  · exact absurd ⟨rfl, rfl, trivial⟩ hd.ns
variable {tx : Tok} {xr : List Tok}
theorem no_tok {l : List Tok} (hp : (tx :: xr).Pairwise (fun a b => a.off < b.off)) (hs : l <:+ xr) : ¬ AtTok (tx.off : Int) l := by
  rintro ⟨u, hu, h1, _⟩
  have := (List.pairwise_cons.1 hp).1 u (hs.subset hu)
  omega
theorem rest_suf {s : St} (hs : s.toks <:+ tx :: xr) : (rest s).toks <:+ xr := by
  have := rest_mono (s := ⟨tx :: xr, 0, []⟩) (s1 := s) hs
  exact this
theorem only_ok {α β : Type} {V : α → β → Prop} {r : Res α} {r' : Res β} (hp : (tx :: xr).Pairwise (fun a b => a.off < b.off)) (h : Rel (P1 E F (tx :: xr) Q S yr) V r r') {a : α} {s : St} (e : r = .ok a s) (ha : AtTok (tx.off : Int) (rest s).toks) :
    ∃ a' s', r' = .ok a' s' ∧ V a a' ∧ Sim (P1 E F (tx :: xr) Q S yr) s s' := by
  cases h with
  | ok b b' t t' e1 e2 v h => rw [e1] at e; cases e; exact ⟨b', t', e2, v, h⟩
  | bad d d' t t' e1 e2 he ho h => rw [e1] at e; cases e
  | dv h u u' =>
    rw [e] at h
    exact absurd ha (no_tok hp (rest_suf h.t1))
/-- not at the edge -/
theorem not_edge (hp : (tx :: xr).Pairwise (fun a b => a.off < b.off)) {s s' : St} (h : Sim (P1 E F (tx :: xr) Q S yr) s s') (ha : AtTok (tx.off : Int) (rest s).toks) : Live (P1 E F (tx :: xr) Q S yr) s s' := by
  rcases sim_edge h with L | ⟨hx, _⟩
  · exact L
  · exact absurd ha (no_tok hp (rest_suf (by rw [hx]; exact List.suffix_refl _)))
theorem diags_back {E : Nat} {α : Type} {r : Res α} {s s1 : St} {a : α} (u : Un E (PX E) r s) (e : r = .ok a s1) (h : s1.diags = []) : s.diags = [] := by
  obtain ⟨_, ext, h1, _⟩ := u.1
  rw [e] at h1
  exact (List.append_eq_nil_iff.1 (h1.symm.trans h)).1

/-- a reader of trees in which the item lies -/
def InsT (E F : Nat) (tx : Tok) (xr : List Tok) (Q S : Tok) (yr : List Tok) (N N' : Nat) (rd rd' : St → Res T) : Prop :=
  ∀ s s' t s1, left s ≤ N → left s' ≤ N' → Sim (P1 E F (tx :: xr) Q S yr) s s' → s.braces = 0 → s.toks.Pairwise (fun a b => a.off < b.off) → rd s = .ok t s1 → s1.diags = [] → (tx.off : Int) ∈ itemsT t →
    ∃ t' s1', rd' s' = .ok t' s1' ∧ RelT tt t t' ∧ Sim (P2 E F Q) s1 s1'
/-- readers of a list's items -/
structure Rds (E F : Nat) (tx : Tok) (xr : List Tok) (Q S : Tok) (yr : List Tok) (N N' : Nat) (rd rd' : St → Res T) : Prop where
  u : Uns E (PX E) rd
  u' : Uns F (PX F) rd'
  t : Takes rd
  t' : Takes rd'
  z : Zs rd
  pos : Pos E rd
  beg : Beg E rd
  bad : BadQ F Q rd'
  one : ∀ {s s'}, left s ≤ N → left s' ≤ N' → NoElse (P1 E F (tx :: xr) Q S yr) → Sim (P1 E F (tx :: xr) Q S yr) s s' → RelJ (P1 E F (tx :: xr) Q S yr) (RelT tt) (rd s) (rd' s')
  rel : ∀ {s s'}, left s ≤ N → left s' ≤ N' → Sim (P1 E F (tx :: xr) Q S yr) s s' → Rel (P1 E F (tx :: xr) Q S yr) (RelT tt) (rd s) (rd' s')
  two : ∀ {s s'}, left s ≤ N → left s' ≤ N' → Sim (P2 E F Q) s s' → Rel (P2 E F Q) (RelT tt) (rd s) (rd' s')
  ins : InsT E F tx xr Q S yr N N' rd rd'
theorem noElse_of (H : Hx (tx :: xr) Q S yr) (ht : tx.text ≠ [101, 108, 115, 101]) : NoElse (P1 E F (tx :: xr) Q S yr) := by
  refine ⟨fun s hs => ?_, fun s hs => acc_q hs H.q.2 (by decide)⟩
  unfold accepts text peek
  rw [hs]
  exact beq_eq_false_iff_ne.2 ht
theorem tx_text {l c : List Tok} (hp : l.Pairwise (fun a b => a.off < b.off)) (hl : l = c ++ tx :: xr) (ha : AtTok (tx.off : Int) l) : tx.text ≠ [101, 108, 115, 101] := by
  obtain ⟨u, hu, h1, h2⟩ := ha
  rw [hl] at hu hp
  rw [List.pairwise_append] at hp
  rcases List.mem_append.1 hu with h | h
  · have := hp.2.2 u h tx (by simp); omega
  · rcases List.mem_cons.1 h with rfl | h
    · exact h2
    · have := (List.pairwise_cons.1 hp.2.1).1 u h; omega
theorem listGo_front {E : Nat} {rd : St → Res T} : ∀ (k : Nat) (l : List T) {s s1 : St} {m : List T}, listGo E rd k l s = .ok m s1 → ∃ m2, m = l ++ m2
  | 0, l, s, s1, m, h => by rw [listGo] at h; exact (wrong_ok h).elim
  | k + 1, l, s, s1, m, h => by
    rw [listGo] at h
    split at h
    · cases h; exact ⟨[], by simp⟩
    · cases hs : s.toks with
      | nil => rw [hs] at h; exact (wrong_ok h).elim
      | cons u q =>
        rw [hs] at h
        obtain ⟨m2, h1⟩ := listGo_front k _ h
        cases ho : (item rd true s).1 with
        | none => rw [ho] at h1; exact ⟨m2, h1⟩
        | some t => rw [ho] at h1; exact ⟨t :: m2, by rw [h1]; simp [more]⟩

theorem ins_listGo (H : Hx (tx :: xr) Q S yr) {N N' : Nat} {rd rd' : St → Res T} (R : Rds E F tx xr Q S yr N N' rd rd') : ∀ (k k' : Nat) (l l' : List T) {s s' s1 : St} {m : List T}, left s + 1 ≤ k → left s' + 1 ≤ k' → left s ≤ N → left s' ≤ N' → RelL tt l l' →
    Sim (P1 E F (tx :: xr) Q S yr) s s' → s.braces = 0 → s.toks.Pairwise (fun a b => a.off < b.off) → listGo E rd k l s = .ok m s1 → s1.diags = [] → (∃ m2, m = l ++ m2 ∧ (tx.off : Int) ∈ itemsG true m2) →
    ∃ m' s1', listGo F rd' k' l' s' = .ok m' s1' ∧ RelL tt m m' ∧ Sim (P2 E F Q) s1 s1'
  | 0, _, _, _, _, _, _, _, hk, _, _, _, _, _, _, _, _, _, _ => absurd hk (by omega)
  | _ + 1, 0, _, _, _, _, _, _, _, hk, _, _, _, _, _, _, _, _, _ => absurd hk (by omega)
  | k + 1, k' + 1, l, l', s, s', s1, m, hk, hk', hN, hN', hl, h, hz, hp, e, hd, ⟨m2, hm, hi⟩ => by
    have e0 := e
    have hsd : s.diags = [] := diags_back (un_listGo (px E) R.u _ _ _) e hd
    rw [listGo] at e
    by_cases hc : accepts E [125] s = true
    · rw [if_pos hc] at e
      cases e
      have : m2 = [] := by
        have := congrArg List.length hm
        simp at this
        exact this
      rw [this, itemsG] at hi
      cases hi
    rw [if_neg hc] at e
    have hf : accepts E [125] s = false := by simpa using hc
    obtain ⟨c, c', hcc, q1, q2⟩ := h.toks
    cases c with
    | nil =>
      cases c' with
      | cons _ _ => unfold RelC at hcc; exact hcc.elim
      | nil =>
        have hx : s.toks = tx :: xr := q1
        have hy : s'.toks = Q :: S :: yr := q2
        obtain ⟨g1, g2⟩ := step_q H R.bad true h hx hy hz hsd
        have hl2 : left s' = yr.length + 2 := by unfold left; rw [hy]; simp
        obtain ⟨m', s1', r1, r2, r3⟩ := two_ok (sim_listGo ok2 R.u R.u' R.t R.t' N N' R.two (k + 1) k' l l' (s := s) (s' := ⟨yr, 0, [⟨20, (Q.off : Int)⟩]⟩) hk (by show yr.length + 1 ≤ k'; omega) hN (by show yr.length ≤ N'; omega) hl g2).rel e0
        refine ⟨m', s1', ?_, r2, r3⟩
        rw [listGo, if_neg (by rw [acc_q hy H.q.2 (by decide)]; decide), hy]
        simp only
        rw [g1]
        exact r1
    | cons u q =>
      have hst : s.toks = u :: (q ++ tx :: xr) := q1
      have hlt : u.off < tx.off := by rw [hst] at hp; exact (List.pairwise_cons.1 hp).1 tx (by simp)
      have L : Live (P1 E F (tx :: xr) Q S yr) s s' := by
        rcases sim_edge h with L | ⟨hx, _⟩
        · exact L
        · have hx : s.toks = tx :: xr := hx
          rw [hx] at hst
          have := congrArg List.length hst
          simp at this
          omega
      rw [hst] at e
      simp only at e
      have hn' : s'.toks ≠ [] := fun h' => by rw [L.nil.2 h'] at hst; cases hst
      have hacc' : ¬ accepts F [125] s' = true := by rw [show accepts F [125] s' = accepts E [125] s from L.acc [125]]; exact hc
      have hB : listGo F rd' (k' + 1) l' s' = listGo F rd' k' (more l' (item rd' true s').1) (item rd' true s').2 := by
        rw [listGo, if_neg hacc']
        cases hs' : s'.toks with
        | nil => exact absurd hs' hn'
        | cons v w => rfl
      have l1' := item_left (E := F) R.t' (b := true) hn' (.inr (by simpa using hacc'))
      rw [hB]
      unfold item at e
      cases hr : rd s with
      | bad d s2 =>
        exfalso
        rw [hr] at e
        simp only at e
        have := diags_back (un_listGo (px E) R.u _ _ _) e hd
        exact report_ne _ _ this
      | ok t s2 =>
        rw [hr] at e
        simp only [more] at e
        have l1 := R.t.lt _ _ _ hr
        have hsuf := st_suf (R.t.suf s) hr
        obtain ⟨m3, hm3⟩ := listGo_front k _ e
        have hm2 : m2 = t :: m3 := by
          rw [hm, List.append_assoc] at hm3
          exact List.append_cancel_left hm3
        rw [hm2, itemsG] at hi
        have hs2d : s2.diags = [] := diags_back (un_listGo (px E) R.u _ _ _) e hd
        rcases List.mem_append.1 hi with hi | hi
        · rcases List.mem_append.1 hi with hi | hi
          · exfalso
            simp only [if_true, List.mem_singleton] at hi
            have ho := (R.beg s t s2 hr).1
            unfold offOf peek at ho
            rw [hst] at ho
            simp only at ho
            omega
          · obtain ⟨t', s2', r1, r2, r3⟩ := R.ins s s' t s2 hN hN' h hz hp hr hs2d hi
            have hit : item rd' true s' = (some t', s2') := by unfold item; rw [r1]
            rw [hit] at l1' ⊢
            simp only [more] at l1' ⊢
            exact two_ok (sim_listGo ok2 R.u R.u' R.t R.t' N N' R.two k k' _ _ (by omega) (by omega) (by omega) (by omega) (relL_snoc _ _ hl r2) r3).rel e
        · obtain ⟨m4, h4, h5⟩ := pos_listGo R.pos R.beg R.t k _ e
          have hm4 : m4 = m3 := by
            obtain ⟨m5, h6⟩ := listGo_front k _ e
            rw [hm3] at h4
            exact (List.append_cancel_left h4).symm
          rw [hm4] at h5
          have hat := h5 _ hi
          have hne := noElse_of (E := E) (F := F) H (tx_text hp q1 (hat.mono hsuf))
          have hJ := R.one hN hN' hne h
          cases hJ with
          | ok b b' v v' e1 e2 vv hh =>
            rw [hr] at e1
            cases e1
            have hit : item rd' true s' = (some b', v') := by unfold item; rw [e2]
            rw [hit] at l1' ⊢
            simp only [more] at l1' ⊢
            exact ins_listGo H R k k' _ _ (by omega) (by omega) (by omega) (by omega) (relL_snoc _ _ hl vv) hh (R.z s t s2 hr hz) (hp.sublist hsuf.sublist) e hd ⟨m3, hm3, hi⟩
          | bad d d' v v' e1 e2 he ho hh => rw [hr] at e1; cases e1
          | dv hh uu uu' n =>
            exfalso
            rw [hr] at hh
            have h7 : s2.toks <:+ tx :: xr := hh.t1
            have h8 : left s2 < (tx :: xr).length := n t s2 hr
            have h9 : s2.toks <:+ xr := by
              rcases List.suffix_cons_iff.1 h7 with h' | h'
              · unfold left at h8; rw [h'] at h8; exact absurd h8 (by omega)
              · exact h'
            exact no_tok (by rw [hst] at hp; exact ((List.pairwise_cons.1 hp).2.sublist (List.sublist_append_right q (tx :: xr)))) h9 hat
end Go.Proofs.YtdiogcedlppioaaGreatDoor.Px

