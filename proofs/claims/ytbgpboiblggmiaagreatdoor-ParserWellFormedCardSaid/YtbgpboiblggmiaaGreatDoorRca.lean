/-
  Two runs side by side of readers that end with a token of their own: if the runs part, the reader ends behind the common part.
-/
import Derived.Test.YtbgpboiblggmiaaGreatDoorBza
set_option linter.unusedVariables false
set_option linter.unusedSimpArgs false
namespace Go.Proofs.YtbgpboiblggmiaaGreatDoor.Px
open Lx (Tok)
variable {p : Par}

inductive RelJ (p : Par) {α β : Type} (V : α → β → Prop) (r : Res α) (r' : Res β) : Prop where
  | ok (a : α) (a' : β) (s s' : St) (e : r = .ok a s) (e' : r' = .ok a' s') (v : V a a') (h : Sim p s s')
  | bad (d d' : D) (s s' : St) (e : r = .bad d s) (e' : r' = .bad d' s') (he : d.err = d'.err) (ho : p.ρ d.off d'.off) (h : Sim p s s')
  | dv (h : Dv p r.st r'.st) (u : ∀ d s, r = .bad d s → BadAt p.E d s) (u' : ∀ d s, r' = .bad d s → BadAt p.F d s) (n : ∀ a s, r = .ok a s → left s < p.x.length)
theorem RelJ.rel {α β : Type} {V : α → β → Prop} {r : Res α} {r' : Res β} (h : RelJ p V r r') : Rel p V r r' := by
  cases h with
  | ok a a' s s' e e' v h => exact .ok a a' s s' e e' v h
  | bad d d' s s' e e' he ho h => exact .bad d d' s s' e e' he ho h
  | dv h u u' n => exact .dv h u u'
theorem relj_of {α β : Type} {V : α → β → Prop} {r : Res α} {r' : Res β} (h : Rel p V r r') (hn : Dv p r.st r'.st → ∀ a s, r = .ok a s → left s < p.x.length) : RelJ p V r r' := by
  cases h with
  | ok a a' s s' e e' v h => exact .ok a a' s s' e e' v h
  | bad d d' s s' e e' he ho h => exact .bad d d' s s' e e' he ho h
  | dv h u u' => exact .dv h u u' (hn h)
theorem relj_dv {α β : Type} {V : α → β → Prop} {r : Res α} {r' : Res β} {s s' : St} (h : Dv p s s') (u : Un p.E (PX p.E) r s) (u' : Un p.F (PX p.F) r' s') (hl : Lt r s) : RelJ p V r r' :=
  .dv (h.step u.1 u'.1) u.2 u'.2 (fun a s1 e => Nat.lt_of_lt_of_le (hl a s1 e) h.t1.length_le)
theorem relj_l {α β γ κ : Type} {V : α → β → Prop} {W : γ → κ → Prop} {r : Res α} {r' : Res β} {f : α → St → Res γ} {f' : β → St → Res κ} (h : Rel p V r r')
    (hf : ∀ a a' s s', r = .ok a s → r' = .ok a' s' → V a a' → Sim p s s' → RelJ p W (f a s) (f' a' s'))
    (hu : ∀ a s, Un p.E (PX p.E) (f a s) s) (hu' : ∀ a s, Un p.F (PX p.F) (f' a s) s) (hl : ∀ a s, Lt (f a s) s) : RelJ p W (r.bind f) (r'.bind f') := by
  cases h with
  | ok a a' s s' e e' v h => have := hf a a' s s' e e' v h; rw [e, e']; exact this
  | bad d d' s s' e e' he ho h => rw [e, e']; exact .bad d d' s s' rfl rfl he ho h
  | dv h u u' =>
    refine relj_of (rel_bind (Rel.dv h u u') (fun a a' s s' e e' v h => (hf a a' s s' e e' v h).rel) hu hu') (fun _ b s2 e2 => ?_)
    obtain ⟨a, s1, e1, e3⟩ := bind_inv e2
    rw [e1] at h
    exact Nat.lt_of_lt_of_le (hl a s1 b s2 e3) h.t1.length_le
theorem relj_bind {α β γ κ : Type} {V : α → β → Prop} {W : γ → κ → Prop} {r : Res α} {r' : Res β} {f : α → St → Res γ} {f' : β → St → Res κ} (h : RelJ p V r r')
    (hf : ∀ a a' s s', r = .ok a s → r' = .ok a' s' → V a a' → Sim p s s' → RelJ p W (f a s) (f' a' s'))
    (hu : ∀ a s, Un p.E (PX p.E) (f a s) s) (hu' : ∀ a s, Un p.F (PX p.F) (f' a s) s) (hs : ∀ a s, Suf (f a s) s) : RelJ p W (r.bind f) (r'.bind f') := by
  cases h with
  | ok a a' s s' e e' v h => have := hf a a' s s' e e' v h; rw [e, e']; exact this
  | bad d d' s s' e e' he ho h => rw [e, e']; exact .bad d d' s s' rfl rfl he ho h
  | dv h u u' n =>
    refine relj_of (rel_bind (Rel.dv h u u') (fun a a' s s' e e' v h => (hf a a' s s' e e' v h).rel) hu hu') (fun _ b s2 e2 => ?_)
    obtain ⟨a, s1, e1, e3⟩ := bind_inv e2
    exact Nat.lt_of_le_of_lt (suf_left (hs a s1) e3) (n a s1 e1)
theorem relj_ok {α β : Type} {V : α → β → Prop} {a : α} {a' : β} {s s' : St} (v : V a a') (h : Sim p s s') : RelJ p V (.ok a s) (.ok a' s') := .ok a a' s s' rfl rfl v h
theorem relj_wrong {α β : Type} {V : α → β → Prop} {s s' : St} (h : Live p s s') : RelJ p V (wrong p.E s : Res α) (wrong p.F s' : Res β) :=
  relj_of (rel_wrong h) (fun _ a s e => (by unfold wrong at e; cases e))
theorem relj_expect (x : Str) (hx : x ≠ []) {s s' : St} (h : Sim p s s') : RelJ p (fun _ _ => True) (expect p.E x s) (expect p.F x s') := by
  rcases sim_cases h with L | hd
  · unfold expect
    rw [L.acc x]
    split
    · exact relj_ok trivial L.next
    · exact relj_wrong L
  · exact relj_dv hd (un_expect (px _) _ _) (un_expect (px _) _ _) (lt_expect hx _)

-- what takes a token, in the form that a rewriting with conditions reads
variable {E : Nat}
theorem sx_bind {α β : Type} {r : Res α} {s : St} {f : α → St → Res β} (h : Suf r s) (hf : ∀ a s1, Suf (f a s1) s1) : Suf (r.bind f) s := suf_bind h fun a s1 _ => hf a s1
theorem sx_ite {α : Type} {c : Prop} [Decidable c] {a b : Res α} {s : St} (h : Suf a s) (h2 : Suf b s) : Suf (if c then a else b) s := by
  split
  · exact h
  · exact h2
theorem sx_ok {α : Type} (a : α) (s : St) : Suf (.ok a s) s := suf_same a
theorem sx_okr {α : Type} (a : α) (s : St) : Suf (.ok a (rest s)) s := suf_rest s
theorem sx_okb {α : Type} (a : α) (s : St) (b : Int) : Suf (.ok a { s with braces := b }) s := List.suffix_refl _
theorem sx_rest {α : Type} {f : St → Res α} (h : ∀ s, Suf (f s) s) (s : St) : Suf (f (rest s)) s := suf_of (h _) (suf_rest s)
theorem sx_name_r (s : St) : Suf (name E (rest s)) s := sx_rest suf_name s
theorem sx_number_r (s : St) : Suf (number E (rest s)) s := sx_rest suf_number s
theorem sx_expr_r (s : St) : Suf (expr E (rest s)) s := sx_rest suf_expr s
theorem sx_exprb (s : St) (b : Int) : Suf (expr E (rest { s with braces := b })) s := suf_of (suf_expr _) (suf_rest { s with braces := b })
theorem sx_assignsb (s : St) (b : Int) (l : List T) : Suf (assigns E l { s with braces := b }) s := suf_assigns l _
theorem sx_length_r (s : St) : Suf (length E (rest s)) s := sx_rest suf_length s
theorem sx_tupleE (s : St) : Suf (tuple E (expr E) s) s := suf_tuple suf_expr s
theorem sx_tupleP (s : St) : Suf (tuple E (param E) s) s := suf_tuple suf_param s
theorem sx_tupleN (s : St) : Suf (tuple E (numeral E) s) s := suf_tuple suf_numeral s
theorem lx_last {α : Type} {x : Str} (hx : (x = []) = False) (s : St) (f : St → α) : Lt ((expect E x s).bind fun _ s1 => .ok (f s1) s1) s := lt_bind (lt_expect (by rw [ne_eq, hx]; exact id) s) fun _ _ => suf_same _
theorem lx_bind {α β : Type} {r : Res α} {s : St} {f : α → St → Res β} (h : Suf r s) (hf : ∀ a s1, Lt (f a s1) s1) : Lt (r.bind f) s := lt_bind' h hf
theorem lt_au {α : Type} {r : Res α} {s : St} (h : Lt r s := by simp (maxDischargeDepth := 60) only [implies_true, reduceCtorEq, lx_last, lx_bind, sx_bind, sx_ite, sx_ok, sx_okr, sx_okb, sx_name_r, sx_number_r, sx_expr_r, sx_exprb, sx_assignsb, sx_length_r, sx_tupleE, sx_tupleP, sx_tupleN, suf_expect, suf_name, suf_number, suf_length, suf_path, suf_expr, suf_refr, suf_typed, suf_param, suf_assign, suf_assigns, suf_withs, *]) : Lt r s := h

theorem relj_claim (q : Int) {s s' : St} (L : Live p s s') : RelJ p (RelT p.ρ) (claim p.E q s) (claim p.F q s') := by
  unfold claim
  refine relj_l (sim_expr L.next) (fun a1 a1' s1 s1' e1 e1' v1 h1 => ?_) (fun _ _ => by (exact un_au)) (fun _ _ => by (exact un_au)) (fun _ _ => by (exact lt_au))
  refine relj_bind (relj_expect _ (by decide) h1) (fun a2 a2' s2 s2' e2 e2' v2 h2 => ?_) (fun _ _ => by (exact un_au)) (fun _ _ => by (exact un_au)) (fun _ _ => suf_same _)
  exact relj_ok (relT_mk L.off (relL_cons v1 (relL_nil _))) h2
theorem relj_bare (q : Int) {s s' : St} (L : Live p s s') : RelJ p (RelT p.ρ) (bare p.E q s) (bare p.F q s') := by
  unfold bare
  refine relj_bind (relj_expect _ (by decide) L.next) (fun a1 a1' s1 s1' e1 e1' v1 h1 => ?_) (fun _ _ => by (exact un_au)) (fun _ _ => by (exact un_au)) (fun _ _ => suf_same _)
  exact relj_ok (relT_mk L.off (relL_nil _)) h1
theorem relj_named (q : Int) {m m' : St → Res Str} (hm : ∀ {s s'}, Sim p s s' → Rel p Eq (m s) (m' s')) {s s' : St} (L : Live p s s') : RelJ p (RelT p.ρ) (named p.E q m s) (named p.F q m' s') := by
  unfold named
  refine relj_l (hm L.next) (fun a1 a1' s1 s1' e1 e1' v1 h1 => ?_) (fun _ _ => by (exact un_au)) (fun _ _ => by (exact un_au)) (fun _ _ => by (exact lt_au))
  refine relj_bind (relj_expect _ (by decide) h1) (fun a2 a2' s2 s2' e2 e2' v2 h2 => ?_) (fun _ _ => by (exact un_au)) (fun _ _ => by (exact un_au)) (fun _ _ => suf_same _)
  rw [v1]
  exact relj_ok (relT_mk L.off (relL_nil _)) h2
theorem relj_assignment {s s' : St} (L : Live p s s') : RelJ p (RelT p.ρ) (assignment p.E s) (assignment p.F s') := by
  unfold assignment
  refine relj_l (sim_assign (relL_nil _) (sim_accepted _ L)) (fun a1 a1' s1 s1' e1 e1' v1 h1 => ?_) (fun _ _ => by (exact un_au)) (fun _ _ => by (exact un_au)) (fun _ _ => by (exact lt_au))
  refine relj_l (sim_withs v1 h1) (fun a2 a2' s2 s2' e2 e2' v2 h2 => ?_) (fun _ _ => by (exact un_au)) (fun _ _ => by (exact un_au)) (fun _ _ => by (exact lt_au))
  refine relj_bind (relj_expect _ (by decide) h2) (fun a3 a3' s3 s3' e3 e3' v3 h3 => ?_) (fun _ _ => by (exact un_au)) (fun _ _ => by (exact un_au)) (fun _ _ => suf_same _)
  rw [L.acc]
  exact relj_ok (relT_mk L.off v2) h3
theorem relj_cas {s s' : St} (L : Live p s s') : RelJ p (RelT p.ρ) (cas p.E s) (cas p.F s') := by
  unfold cas
  refine relj_l (sim_refr L.next) (fun a1 a1' s1 s1' e1 e1' v1 h1 => ?_) (fun _ _ => by (exact un_au)) (fun _ _ => by (exact un_au)) (fun _ _ => by (exact lt_au))
  refine relj_l (sim_expect _ h1) (fun a2 a2' s2 s2' e2 e2' v2 h2 => ?_) (fun _ _ => by (exact un_au)) (fun _ _ => by (exact un_au)) (fun _ _ => by (exact lt_au))
  refine relj_l (sim_expr h2) (fun a3 a3' s3 s3' e3 e3' v3 h3 => ?_) (fun _ _ => by (exact un_au)) (fun _ _ => by (exact un_au)) (fun _ _ => by (exact lt_au))
  refine relj_l (sim_expect _ h3) (fun a4 a4' s4 s4' e4 e4' v4 h4 => ?_) (fun _ _ => by (exact un_au)) (fun _ _ => by (exact un_au)) (fun _ _ => by (exact lt_au))
  refine relj_l (sim_expr h4) (fun a5 a5' s5 s5' e5 e5' v5 h5 => ?_) (fun _ _ => by (exact un_au)) (fun _ _ => by (exact un_au)) (fun _ _ => by (exact lt_au))
  refine relj_l (sim_expect _ h5) (fun a6 a6' s6 s6' e6 e6' v6 h6 => ?_) (fun _ _ => by (exact un_au)) (fun _ _ => by (exact un_au)) (fun _ _ => by (exact lt_au))
  refine relj_l (sim_refr h6) (fun a7 a7' s7 s7' e7 e7' v7 h7 => ?_) (fun _ _ => by (exact un_au)) (fun _ _ => by (exact un_au)) (fun _ _ => by (exact lt_au))
  have hl : RelL p.ρ [a1, a3, a5, a7] [a1', a3', a5', a7'] := relL_cons v1 (relL_cons v3 (relL_cons v5 (relL_cons v7 (relL_nil _))))
  refine relj_l (sim_withs hl h7) (fun a8 a8' s8 s8' e8 e8' v8 h8 => ?_) (fun _ _ => by (exact un_au)) (fun _ _ => by (exact un_au)) (fun _ _ => by (exact lt_au))
  refine relj_bind (relj_expect _ (by decide) h8) (fun a9 a9' s9 s9' e9 e9' v9 h9 => ?_) (fun _ _ => by (exact un_au)) (fun _ _ => by (exact un_au)) (fun _ _ => suf_same _)
  exact relj_ok (relT_mk L.off v8) h9
theorem relj_call {s s' : St} (L : Live p s s') : RelJ p (RelT p.ρ) (call p.E s) (call p.F s') := by
  unfold call
  refine relj_l (sim_path L.next) (fun a1 a1' s1 s1' e1 e1' v1 h1 => ?_) (fun _ _ => by (exact un_au)) (fun _ _ => by (exact un_au)) (fun _ _ => by (exact lt_au))
  refine relj_l (sim_tuple (un_expr (px _)) (un_expr (px _)) sim_expr h1) (fun a2 a2' s2 s2' e2 e2' v2 h2 => ?_) (fun _ _ => by (exact un_au)) (fun _ _ => by (exact un_au)) (fun _ _ => by (exact lt_au))
  refine relj_bind (relj_expect _ (by decide) h2) (fun a3 a3' s3 s3' e3 e3' v3 h3 => ?_) (fun _ _ => by (exact un_au)) (fun _ _ => by (exact un_au)) (fun _ _ => suf_same _)
  rw [v1]
  exact relj_ok (relT_mk L.off v2) h3
theorem relj_plocal {s s' : St} (L : Live p s s') : RelJ p (RelT p.ρ) (plocal p.E s) (plocal p.F s') := by
  unfold plocal
  refine relj_l (sim_expect _ (sim_accepted _ L)) (fun a1 a1' s1 s1' e1 e1' v1 h1 => ?_) (fun _ _ => by (exact un_au)) (fun _ _ => by (exact un_au)) (fun _ _ => by (exact lt_au))
  refine relj_l (sim_typed h1) (fun a2 a2' s2 s2' e2 e2' v2 h2 => ?_) (fun _ _ => by (exact un_au)) (fun _ _ => by (exact un_au)) (fun _ _ => by (exact lt_au))
  refine relj_bind (relj_expect _ (by decide) h2) (fun a3 a3' s3 s3' e3 e3' v3 h3 => ?_) (fun _ _ => by (exact un_au)) (fun _ _ => by (exact un_au)) (fun _ _ => suf_same _)
  rw [v2, L.acc]
  exact relj_ok (relT_mk L.off (relL_nil _)) h3
theorem relj_field {s s' : St} (h : Sim p s s') : RelJ p (RelT p.ρ) (field p.E s) (field p.F s') := by
  rcases sim_cases h with L | hd
  rotate_left
  · exact relj_dv hd (uns_field (px _) _) (uns_field (px _) _) (takes_field.lt _)
  unfold field
  refine relj_l (sim_typed h) (fun a2 a2' s2 s2' e2 e2' v2 h2 => ?_) (fun _ _ => by (exact un_au)) (fun _ _ => by (exact un_au)) (fun _ _ => by (exact lt_au))
  refine relj_bind (relj_expect _ (by decide) h2) (fun a3 a3' s3 s3' e3 e3' v3 h3 => ?_) (fun _ _ => by (exact un_au)) (fun _ _ => by (exact un_au)) (fun _ _ => suf_same _)
  rw [v2]
  exact relj_ok (relT_mk L.off (relL_nil _)) h3
theorem relj_atomic {s s' : St} (L : Live p s s') : RelJ p (RelT p.ρ) (atomic p.E s) (atomic p.F s') := by
  unfold atomic
  refine relj_l (sim_expect _ L.next) (fun a1 a1' s1 s1' e1 e1' v1 h1 => ?_) (fun _ _ => by (exact un_au)) (fun _ _ => by (exact un_au)) (fun _ _ => by (exact lt_au))
  refine relj_l (V := RelL p.ρ) ?_ (fun a2 a2' s2 s2' e2 e2' v2 h2 => ?_) (fun _ _ => by (exact un_au)) (fun _ _ => by (exact un_au)) (fun _ _ => by (exact lt_au))
  · rcases sim_cases h1 with L1 | hd
    rotate_left
    · exact rel_dv hd (by (exact un_au)) (by (exact un_au))
    rw [L1.acc]
    split
    · exact rel_ok (relL_cons (rel_none L) (relL_nil _)) (h1.set 1)
    · exact sim_assigns (relL_cons (rel_none L) (relL_nil _)) (h1.set 1)
  refine relj_l (sim_expect _ h2) (fun a3 a3' s3 s3' e3 e3' v3 h3 => ?_) (fun _ _ => by (exact un_au)) (fun _ _ => by (exact un_au)) (fun _ _ => by (exact lt_au))
  refine relj_l (V := RelL p.ρ) ?_ (fun a4 a4' s4 s4' e4 e4' v4 h4 => ?_) (fun _ _ => by (exact un_au)) (fun _ _ => by (exact un_au)) (fun _ _ => by (exact lt_au))
  · rcases sim_cases h3 with L3 | hd
    rotate_left
    · exact rel_dv hd (by (exact un_au)) (by (exact un_au))
    rw [L3.acc]
    split
    · refine rel_bind (sim_expr (L3.next.set 0)) (fun a5 a5' s5 s5' e5 e5' v5 h5 => ?_) (fun _ _ => by (exact un_au)) (fun _ _ => by (exact un_au))
      exact rel_ok (relL_cons v5 (relL_tail v2)) h5
    · exact rel_ok v2 (h3.set 0)
  refine relj_bind (relj_expect _ (by decide) h4) (fun a6 a6' s6 s6' e6 e6' v6 h6 => ?_) (fun _ _ => by (exact un_au)) (fun _ _ => by (exact un_au)) (fun _ _ => suf_same _)
  exact relj_ok (relT_mk L.off v4) h6
theorem relj_lock {s s' : St} (L : Live p s s') : RelJ p (RelT p.ρ) (lock p.E s) (lock p.F s') := by
  unfold lock
  refine relj_l (sim_name L.next) (fun a1 a1' s1 s1' e1 e1' v1 h1 => ?_) (fun _ _ => by (exact un_au)) (fun _ _ => by (exact un_au)) (fun _ _ => by (exact lt_au))
  refine relj_l (sim_expect _ h1) (fun a2 a2' s2 s2' e2 e2' v2 h2 => ?_) (fun _ _ => by (exact un_au)) (fun _ _ => by (exact un_au)) (fun _ _ => by (exact lt_au))
  refine relj_l (sim_expr h2) (fun a3 a3' s3 s3' e3 e3' v3 h3 => ?_) (fun _ _ => by (exact un_au)) (fun _ _ => by (exact un_au)) (fun _ _ => by (exact lt_au))
  refine relj_bind (relj_expect _ (by decide) h3) (fun a4 a4' s4 s4' e4 e4' v4 h4 => ?_) (fun _ _ => by (exact un_au)) (fun _ _ => by (exact un_au)) (fun _ _ => suf_same _)
  rw [v1]
  exact relj_ok (relT_mk L.off (relL_cons v3 (relL_nil _))) h4
theorem relj_frame {s s' : St} (L : Live p s s') : RelJ p (RelT p.ρ) (frame p.E s) (frame p.F s') := by
  unfold frame
  refine relj_l (sim_separated (un_pvar (px _)) (un_pvar (px _)) sim_pvar L.next) (fun a1 a1' s1 s1' e1 e1' v1 h1 => ?_) (fun _ _ => by (exact un_au)) (fun _ _ => by (exact un_au)) (fun _ _ => by (exact lt_au))
  refine relj_bind (relj_expect _ (by decide) h1) (fun a2 a2' s2 s2' e2 e2' v2 h2 => ?_) (fun _ _ => by (exact un_au)) (fun _ _ => by (exact un_au)) (fun _ _ => suf_same _)
  exact relj_ok (relT_mk L.off v1) h2
theorem relj_shared {s s' : St} (L : Live p s s') : RelJ p (RelT p.ρ) (shared p.E s) (shared p.F s') := by
  unfold shared
  refine relj_l (sim_expect _ (sim_accepted _ L)) (fun a1 a1' s1 s1' e1 e1' v1 h1 => ?_) (fun _ _ => by (exact un_au)) (fun _ _ => by (exact un_au)) (fun _ _ => by (exact lt_au))
  refine relj_l (sim_name h1) (fun a2 a2' s2 s2' e2 e2' v2 h2 => ?_) (fun _ _ => by (exact un_au)) (fun _ _ => by (exact un_au)) (fun _ _ => by (exact lt_au))
  refine relj_l (V := Eq) ?_ (fun a3 a3' s3 s3' e3 e3' v3 h3 => ?_) (fun _ _ => by (exact un_au)) (fun _ _ => by (exact un_au)) (fun _ _ => by (exact lt_au))
  · rcases sim_cases h2 with L2 | hd
    rotate_left
    · exact rel_dv hd (by (exact un_au)) (by (exact un_au))
    rw [L2.acc]
    split
    · refine rel_bind (sim_length L2.next) (fun a4 a4' s4 s4' e4 e4' v4 h4 => ?_) (fun _ _ => by (exact un_au)) (fun _ _ => by (exact un_au))
      refine rel_bind (sim_expect _ h4) (fun a5 a5' s5 s5' e5 e5' v5 h5 => ?_) (fun _ _ => by (exact un_au)) (fun _ _ => by (exact un_au))
      exact rel_ok v4 h5
    · exact rel_ok rfl h2
  refine relj_l (sim_expect _ h3) (fun a6 a6' s6 s6' e6 e6' v6 h6 => ?_) (fun _ _ => by (exact un_au)) (fun _ _ => by (exact un_au)) (fun _ _ => by (exact lt_au))
  refine relj_l (V := Eq) ?_ (fun a7 a7' s7 s7' e7 e7' v7 h7 => ?_) (fun _ _ => by (exact un_au)) (fun _ _ => by (exact un_au)) (fun _ _ => by (exact lt_au))
  · rcases sim_cases h6 with L6 | hd
    rotate_left
    · exact rel_dv hd (by (exact un_au)) (by (exact un_au))
    rw [← L6.kind]
    split
    · refine rel_bind (sim_number h6) (fun a8 a8' s8 s8' e8 e8' v8 h8 => ?_) (fun _ _ => by (exact un_au)) (fun _ _ => by (exact un_au))
      rw [v8]
      exact rel_ok rfl h8
    · refine rel_bind (sim_name h6) (fun a8 a8' s8 s8' e8 e8' v8 h8 => ?_) (fun _ _ => by (exact un_au)) (fun _ _ => by (exact un_au))
      rw [v8]
      exact rel_ok rfl h8
  refine relj_l (V := Eq) ?_ (fun a9 a9' s9 s9' e9 e9' v9 h9 => ?_) (fun _ _ => by (exact un_au)) (fun _ _ => by (exact un_au)) (fun _ _ => by (exact lt_au))
  · rcases sim_cases h7 with L7 | hd
    rotate_left
    · exact rel_dv hd (by (exact un_au)) (by (exact un_au))
    rw [L7.acc]
    split
    · exact sim_number L7.next
    · exact rel_ok rfl h7
  refine relj_bind (relj_expect _ (by decide) h9) (fun a10 a10' s10 s10' e10 e10' v10 h10 => ?_) (fun _ _ => by (exact un_au)) (fun _ _ => by (exact un_au)) (fun _ _ => suf_same _)
  rw [v2, v3, v7, v9, L.acc]
  exact relj_ok (relT_mk L.off (relL_nil _)) h10
theorem relj_thread {s s' : St} (L : Live p s s') : RelJ p (RelT p.ρ) (thread p.E s) (thread p.F s') := by
  unfold thread
  refine relj_l (sim_expect _ (sim_accepted _ L)) (fun a1 a1' s1 s1' e1 e1' v1 h1 => ?_) (fun _ _ => by (exact un_au)) (fun _ _ => by (exact un_au)) (fun _ _ => by (exact lt_au))
  refine relj_l (sim_name h1) (fun a2 a2' s2 s2' e2 e2' v2 h2 => ?_) (fun _ _ => by (exact un_au)) (fun _ _ => by (exact un_au)) (fun _ _ => by (exact lt_au))
  refine relj_l (sim_expect _ h2) (fun a3 a3' s3 s3' e3 e3' v3 h3 => ?_) (fun _ _ => by (exact un_au)) (fun _ _ => by (exact un_au)) (fun _ _ => by (exact lt_au))
  refine relj_l (sim_path h3) (fun a4 a4' s4 s4' e4 e4' v4 h4 => ?_) (fun _ _ => by (exact un_au)) (fun _ _ => by (exact un_au)) (fun _ _ => by (exact lt_au))
  refine relj_l (sim_tuple (un_numeral (px _)) (un_numeral (px _)) sim_numeral h4) (fun a5 a5' s5 s5' e5 e5' v5 h5 => ?_) (fun _ _ => by (exact un_au)) (fun _ _ => by (exact un_au)) (fun _ _ => by (exact lt_au))
  refine relj_bind (relj_expect _ (by decide) h5) (fun a6 a6' s6 s6' e6 e6' v6 h6 => ?_) (fun _ _ => by (exact un_au)) (fun _ _ => by (exact un_au)) (fun _ _ => suf_same _)
  rw [v2, v4, L.acc]
  exact relj_ok (relT_mk L.off v5) h6
end Go.Proofs.YtbgpboiblggmiaaGreatDoor.Px
