/-
  Every item of a tree that was read begins at a token behind the tree's first one; no item begins with else.
-/
import Derived.Test.YtdiogcedlppioaaGreatDoorQRcc
set_option linter.unusedVariables false
set_option linter.unusedSimpArgs false
namespace Go.Proofs.YtdiogcedlppioaaGreatDoor.Px
open Lx (Tok)
variable {E : Nat}

/-- where an item begins: at a token -/
def AtTok (i : Int) (l : List Tok) : Prop := ∃ u ∈ l, (u.off : Int) = i ∧ u.text ≠ [101, 108, 115, 101]
theorem AtTok.mono {i : Int} {l m : List Tok} (h : AtTok i l) (hs : l <:+ m) : AtTok i m := by
  obtain ⟨u, hu, h1, h2⟩ := h
  exact ⟨u, hs.subset hu, h1, h2⟩
def Pos (E : Nat) (rd : St → Res T) : Prop := ∀ s t s1, rd s = .ok t s1 → ∀ i ∈ itemsT t, AtTok i (rest s).toks
/-- an item's offset is that of its first token -/
def Beg (E : Nat) (rd : St → Res T) : Prop := ∀ s t s1, rd s = .ok t s1 → t.off = offOf E s ∧ text E s ≠ [101, 108, 115, 101] ∧ s.toks ≠ []
theorem beg_tok {rd : St → Res T} (h : Beg E rd) {s s1 : St} {t : T} (e : rd s = .ok t s1) : AtTok t.off s.toks := by
  obtain ⟨h1, h2, h3⟩ := h s t s1 e
  unfold offOf peek at h1
  unfold text peek at h2
  cases hs : s.toks with
  | nil => exact absurd hs h3
  | cons u r => rw [hs] at h1 h2; exact ⟨u, by simp, h1.symm, h2⟩
theorem rest_mono {s s1 : St} (h : s1.toks <:+ s.toks) : (rest s1).toks <:+ (rest s).toks := by
  unfold rest
  obtain ⟨pre, hp⟩ := h
  cases pre with
  | nil => rw [← hp]; exact List.suffix_refl _
  | cons u q =>
    rw [← hp]
    simp only [List.cons_append, List.tail_cons]
    exact (List.tail_suffix _).trans (List.suffix_append _ _)
theorem st_suf {α : Type} {r : Res α} {s s1 : St} {a : α} (h : Suf r s) (e : r = .ok a s1) : s1.toks <:+ s.toks := by rw [e] at h; exact h
theorem pos_listGo {rd : St → Res T} (hp : Pos E rd) (hb : Beg E rd) (ht : Takes rd) : ∀ (k : Nat) (l : List T) {s s1 : St} {m : List T}, listGo E rd k l s = .ok m s1 → ∃ m2, m = l ++ m2 ∧ ∀ i ∈ itemsG true m2, AtTok i s.toks
  | 0, l, s, s1, m, h => by rw [listGo] at h; exact (wrong_ok h).elim
  | k + 1, l, s, s1, m, h => by
    rw [listGo] at h
    split at h
    · cases h; exact ⟨[], by simp, fun i hi => by rw [itemsG] at hi; cases hi⟩
    · cases hs : s.toks with
      | nil => rw [hs] at h; exact (wrong_ok h).elim
      | cons u q =>
        rw [hs] at h
        simp only at h
        obtain ⟨m2, h1, h2⟩ := pos_listGo hp hb ht k _ h
        rw [← hs]
        unfold item at h1 h2
        cases hr : rd s with
        | ok t s2 =>
          rw [hr] at h1 h2
          have hsuf := st_suf (ht.suf s) hr
          refine ⟨t :: m2, by rw [h1]; simp [more], fun i hi => ?_⟩
          rw [itemsG] at hi
          rcases List.mem_append.1 hi with hi | hi
          · rcases List.mem_append.1 hi with hi | hi
            · simp only [if_true, List.mem_singleton] at hi
              rw [hi]
              exact beg_tok hb hr
            · exact (hp s t s2 hr i hi).mono (suf_rest s)
          · exact (h2 i hi).mono hsuf
        | bad d s2 =>
          rw [hr] at h1 h2
          have hsuf : s2.toks <:+ s.toks := by have := ht.suf s; rw [hr] at this; exact this
          exact ⟨m2, h1, fun i hi => (h2 i hi).mono ((skip_suf _ _ _).trans hsuf)⟩
theorem pos_list {rd : St → Res T} (hp : Pos E rd) (hb : Beg E rd) (ht : Takes rd) {s s1 : St} {m : List T} (h : list E rd s = .ok m s1) : ∀ i ∈ itemsG true m, AtTok i (rest s).toks := by
  unfold list at h
  obtain ⟨a1, s1, e1, h⟩ := bind_inv h
  obtain ⟨_, rfl⟩ := expect_inv e1
  obtain ⟨m2, h1, h2⟩ := pos_listGo hp hb ht _ _ h
  rw [List.nil_append] at h1
  subst h1
  exact h2
theorem pos_block {rd : St → Res T} (hp : Pos E rd) (hb : Beg E rd) (ht : Takes rd) : Pos E (block E rd) := fun s t s1 h => by
  unfold block at h
  obtain ⟨a1, s1, e1, h⟩ := bind_inv h
  cases h
  intro i hi
  unfold T.of at hi
  rw [itemsT] at hi
  exact pos_list hp hb ht e1 i hi
theorem pos_ni {t : T} (h : NI t) (l : List Tok) : ∀ i ∈ itemsT t, AtTok i l := fun i hi => by unfold NI at h; rw [h] at hi; cases hi

theorem assign_ni {l : List T} {s s1 : St} {m : List T} (hl : NIL l) (h : assign E l s = .ok m s1) : NIL m := by
  unfold assign at h
  obtain ⟨a1, s1, e1, h⟩ := bind_inv h
  obtain ⟨a2, s2, e2, h⟩ := bind_inv h
  obtain ⟨a3, s3, e3, h⟩ := bind_inv h
  cases h
  exact nil_app hl (nil_cons (refr_ni e1) (nil_cons (expr_ni e3) nil_nil))
theorem assignsGo_ni : ∀ (k : Nat) (l : List T) {s s1 : St} {m : List T}, NIL l → assignsGo E k l s = .ok m s1 → NIL m
  | 0, l, s, s1, m, hl, h => by rw [assignsGo] at h; cases h; exact hl
  | k + 1, l, s, s1, m, hl, h => by
    rw [assignsGo] at h
    split at h
    · obtain ⟨a1, s1, e1, h⟩ := bind_inv h
      exact assignsGo_ni k _ (assign_ni hl e1) h
    · cases h; exact hl
theorem assigns_ni {l : List T} {s s1 : St} {m : List T} (hl : NIL l) (h : assigns E l s = .ok m s1) : NIL m := by
  unfold assigns at h
  obtain ⟨a1, s1, e1, h⟩ := bind_inv h
  exact assignsGo_ni _ _ (assign_ni hl e1) h
theorem withs_ni {l : List T} {s s1 : St} {m : List T} (hl : NIL l) (h : withs E l s = .ok m s1) : NIL m := by
  unfold withs at h
  split at h
  · exact assigns_ni hl h
  · cases h; exact hl
theorem sepGo_ni {part : St → Res T} (hp : ∀ s t s1, part s = .ok t s1 → NI t) : ∀ (k : Nat) (l : List T) {s s1 : St} {m : List T}, NIL l → sepGo E part k l s = .ok m s1 → NIL m
  | 0, l, s, s1, m, hl, h => by rw [sepGo] at h; cases h; exact hl
  | k + 1, l, s, s1, m, hl, h => by
    rw [sepGo] at h
    split at h
    · obtain ⟨a1, s1, e1, h⟩ := bind_inv h
      exact sepGo_ni hp k _ (nil_app hl (nil_cons (hp _ _ _ e1) nil_nil)) h
    · cases h; exact hl
theorem separated_ni {part : St → Res T} (hp : ∀ s t s1, part s = .ok t s1 → NI t) {s s1 : St} {m : List T} (h : separated E part s = .ok m s1) : NIL m := by
  unfold separated at h
  obtain ⟨a1, s1, e1, h⟩ := bind_inv h
  exact sepGo_ni hp _ _ (nil_cons (hp _ _ _ e1) nil_nil) h
theorem tuple_ni {part : St → Res T} (hp : ∀ s t s1, part s = .ok t s1 → NI t) {s s1 : St} {m : List T} (h : tuple E part s = .ok m s1) : NIL m := by
  unfold tuple at h
  obtain ⟨a1, s1, e1, h⟩ := bind_inv h
  split at h
  · cases h; exact nil_nil
  · obtain ⟨a2, s2, e2, h⟩ := bind_inv h
    obtain ⟨a3, s3, e3, h⟩ := bind_inv h
    cases h
    exact separated_ni hp e2
theorem ni_none (o : Int) : NI (none o) := ni_mk rfl nil_nil
theorem text_of {x : Str} {s : St} (h : accepts E x s = true) : text E s = x := eq_of_beq h
theorem ne_nil_of {x : Str} {s : St} (h : accepts E x s = true) (hx : x ≠ []) : s.toks ≠ [] := by
  intro e
  have := text_of h
  unfold text peek at this
  rw [e] at this
  exact hx this.symm
theorem name_text {s s1 : St} {x : Str} (h : name E s = .ok x s1) : text E s ≠ [101, 108, 115, 101] ∧ s.toks ≠ [] := by
  unfold name at h
  split at h
  · rename_i hc
    refine ⟨fun e => ?_, fun e => ?_⟩
    · rw [e] at hc; exact absurd hc.2 (by decide)
    · have := hc.1
      unfold kindOf peek at this
      rw [e] at this
      simp at this
  · exact (wrong_ok h).elim
theorem path_text {s s1 : St} {x : Str} (h : path E s = .ok x s1) : text E s ≠ [101, 108, 115, 101] ∧ s.toks ≠ [] := by
  unfold path at h
  obtain ⟨a1, s1, e1, h⟩ := bind_inv h
  exact name_text e1
theorem ref_text {s s1 : St} {t : T} (h : refr E s = .ok t s1) : text E s ≠ [101, 108, 115, 101] ∧ s.toks ≠ [] := by
  unfold refr at h
  rw [show fuel s = (6 * s.toks.length + 5) + 1 from rfl, run] at h
  obtain ⟨a1, s1, e1, h⟩ := bind_inv h
  unfold pvar at e1
  obtain ⟨x, s2, e2, e3⟩ := bind_inv e1
  exact path_text e2
theorem acc_text {x : Str} {s : St} (h : text E (accepted E x s) ≠ [101, 108, 115, 101] ∧ (accepted E x s).toks ≠ []) (hx : x ≠ [101, 108, 115, 101]) (hx0 : x ≠ []) : text E s ≠ [101, 108, 115, 101] ∧ s.toks ≠ [] := by
  unfold accepted at h
  by_cases hc : accepts E x s = true
  · exact ⟨by rw [text_of hc]; exact hx, ne_nil_of hc hx0⟩
  · rw [if_neg hc] at h; exact h
theorem exp_text {x : Str} {s s1 : St} {a : Unit} (h : expect E x s = .ok a s1) (hx : x ≠ [101, 108, 115, 101]) (hx0 : x ≠ []) : text E s ≠ [101, 108, 115, 101] ∧ s.toks ≠ [] := by
  obtain ⟨h1, _⟩ := expect_inv h
  exact ⟨by rw [text_of h1]; exact hx, ne_nil_of h1 hx0⟩
theorem beg_field : Beg E (field E) := fun s t s1 h => by
  unfold field at h
  obtain ⟨a1, s1, e1, h⟩ := bind_inv h
  obtain ⟨a2, s2, e2, h⟩ := bind_inv h
  cases h
  unfold typed at e1
  obtain ⟨x, s3, e3, e4⟩ := bind_inv e1
  exact ⟨rfl, name_text e3⟩
theorem pos_field : Pos E (field E) := fun s t s1 h => by
  unfold field at h
  obtain ⟨a1, s1, e1, h⟩ := bind_inv h
  obtain ⟨a2, s2, e2, h⟩ := bind_inv h
  cases h
  exact pos_ni (ni_mk rfl nil_nil) _

/-- a statement by its first word -/
theorem word_beg {x : Str} {s : St} {t : T} (hc : accepts E x s = true) (hx : x ≠ [101, 108, 115, 101]) (hx0 : x ≠ []) (ho : t.off = offOf E s) : t.off = offOf E s ∧ text E s ≠ [101, 108, 115, 101] ∧ s.toks ≠ [] :=
  ⟨ho, by rw [text_of hc]; exact hx, ne_nil_of hc hx0⟩
theorem claim_off {q : Int} (hq : isList q = false) {s s1 : St} {t : T} (h : claim E q s = .ok t s1) : t.off = offOf E s ∧ NI t := by
  unfold claim at h
  obtain ⟨a1, s1, e1, h⟩ := bind_inv h
  obtain ⟨a2, s2, e2, h⟩ := bind_inv h
  cases h
  exact ⟨rfl, ni_mk hq (nil_cons (expr_ni e1) nil_nil)⟩
theorem bare_off {q : Int} (hq : isList q = false) {s s1 : St} {t : T} (h : bare E q s = .ok t s1) : t.off = offOf E s ∧ NI t := by
  unfold bare at h
  obtain ⟨a1, s1, e1, h⟩ := bind_inv h
  cases h
  exact ⟨rfl, ni_mk hq nil_nil⟩
theorem named_off {q : Int} (hq : isList q = false) {m : St → Res Str} {s s1 : St} {t : T} (h : named E q m s = .ok t s1) : t.off = offOf E s ∧ NI t := by
  unfold named at h
  obtain ⟨a1, s1, e1, h⟩ := bind_inv h
  obtain ⟨a2, s2, e2, h⟩ := bind_inv h
  cases h
  exact ⟨rfl, ni_mk hq nil_nil⟩
theorem assignment_off {s s1 : St} {t : T} (h : assignment E s = .ok t s1) : t.off = offOf E s ∧ NI t ∧ text E s ≠ [101, 108, 115, 101] ∧ s.toks ≠ [] := by
  unfold assignment at h
  obtain ⟨a1, s1, e1, h⟩ := bind_inv h
  obtain ⟨a2, s2, e2, h⟩ := bind_inv h
  obtain ⟨a3, s3, e3, h⟩ := bind_inv h
  cases h
  refine ⟨rfl, ni_mk rfl (withs_ni (assign_ni nil_nil e1) e2), ?_⟩
  unfold assign at e1
  obtain ⟨x, s4, e4, e5⟩ := bind_inv e1
  exact acc_text (ref_text e4) (by decide) (by decide)
theorem atomic_off {s s1 : St} {t : T} (h : atomic E s = .ok t s1) : t.off = offOf E s ∧ NI t := by
  unfold atomic at h
  obtain ⟨a1, s1, e1, h⟩ := bind_inv h
  obtain ⟨a2, s2, e2, h⟩ := bind_inv h
  obtain ⟨a3, s3, e3, h⟩ := bind_inv h
  obtain ⟨a4, s4, e4, h⟩ := bind_inv h
  obtain ⟨a5, s5, e5, h⟩ := bind_inv h
  cases h
  have h2 : NIL a2 := by
    split at e2
    · cases e2; exact nil_cons (ni_none _) nil_nil
    · exact assigns_ni (nil_cons (ni_none _) nil_nil) e2
  have h4 : NIL a4 := by
    split at e4
    · obtain ⟨g, s6, e6, e7⟩ := bind_inv e4
      cases e7
      exact nil_cons (expr_ni e6) (nil_tail h2)
    · cases e4; exact h2
  exact ⟨rfl, ni_mk rfl h4⟩
theorem cas_off {s s1 : St} {t : T} (h : cas E s = .ok t s1) : t.off = offOf E s ∧ NI t := by
  unfold cas at h
  obtain ⟨a1, s1, e1, h⟩ := bind_inv h
  obtain ⟨a2, s2, e2, h⟩ := bind_inv h
  obtain ⟨a3, s3, e3, h⟩ := bind_inv h
  obtain ⟨a4, s4, e4, h⟩ := bind_inv h
  obtain ⟨a5, s5, e5, h⟩ := bind_inv h
  obtain ⟨a6, s6, e6, h⟩ := bind_inv h
  obtain ⟨a7, s7, e7, h⟩ := bind_inv h
  obtain ⟨a8, s8, e8, h⟩ := bind_inv h
  obtain ⟨a9, s9, e9, h⟩ := bind_inv h
  cases h
  exact ⟨rfl, ni_mk rfl (withs_ni (nil_cons (refr_ni e1) (nil_cons (expr_ni e3) (nil_cons (expr_ni e5) (nil_cons (refr_ni e7) nil_nil)))) e8)⟩
theorem call_off {s s1 : St} {t : T} (h : call E s = .ok t s1) : t.off = offOf E s ∧ NI t := by
  unfold call at h
  obtain ⟨a1, s1, e1, h⟩ := bind_inv h
  obtain ⟨a2, s2, e2, h⟩ := bind_inv h
  obtain ⟨a3, s3, e3, h⟩ := bind_inv h
  cases h
  exact ⟨rfl, ni_mk rfl (tuple_ni (fun _ _ _ h => expr_ni h) e2)⟩
theorem plocal_off {s s1 : St} {t : T} (h : plocal E s = .ok t s1) : t.off = offOf E s ∧ NI t ∧ text E s ≠ [101, 108, 115, 101] ∧ s.toks ≠ [] := by
  unfold plocal at h
  obtain ⟨a1, s1, e1, h⟩ := bind_inv h
  obtain ⟨a2, s2, e2, h⟩ := bind_inv h
  obtain ⟨a3, s3, e3, h⟩ := bind_inv h
  cases h
  exact ⟨rfl, ni_mk rfl nil_nil, acc_text (exp_text e1 (by decide) (by decide)) (by decide) (by decide)⟩
theorem branch_off {rd : St → Res T} (hp : Pos E rd) (hb : Beg E rd) (ht : Takes rd) {s s1 : St} {t : T} (h : branch E rd s = .ok t s1) : t.off = offOf E s ∧ ∀ i ∈ itemsT t, AtTok i (rest s).toks := by
  unfold branch at h
  obtain ⟨a1, s1, e1, h⟩ := bind_inv h
  obtain ⟨a2, s2, e2, h⟩ := bind_inv h
  obtain ⟨a3, s3, e3, h⟩ := bind_inv h
  cases h
  refine ⟨rfl, fun i hi => ?_⟩
  have f1 := st_suf (suf_expr (rest s)) e1
  have f2 := st_suf (suf_block ht _) e2
  have hr : ∀ s' : St, s'.toks <:+ (rest s).toks → (rest s').toks <:+ (rest s).toks := fun s' h' => (suf_rest s').trans h'
  unfold T.of at hi
  rw [itemsT, show isList 31 = false from rfl, itemsG, itemsG, itemsG, itemsG] at hi
  rw [show itemsT a1 = [] from expr_ni e1] at hi
  simp only [Bool.false_eq_true, if_false, List.nil_append, List.append_nil] at hi
  rcases List.mem_append.1 hi with hi | hi
  · exact (pos_block hp hb ht _ _ _ e2 i hi).mono (hr _ f1)
  · split at e3
    · exact (pos_block hp hb ht _ _ _ e3 i hi).mono (hr _ ((suf_rest s2).trans (f2.trans f1)))
    · cases e3
      unfold T.of at hi
      rw [itemsT, itemsG] at hi
      cases hi
theorem loop_off {rd : St → Res T} (hp : Pos E rd) (hb : Beg E rd) (ht : Takes rd) {s s1 : St} {t : T} (h : loop E rd s = .ok t s1) : t.off = offOf E s ∧ ∀ i ∈ itemsT t, AtTok i (rest s).toks := by
  unfold loop at h
  obtain ⟨a1, s1, e1, h⟩ := bind_inv h
  obtain ⟨a2, s2, e2, h⟩ := bind_inv h
  obtain ⟨a3, s3, e3, h⟩ := bind_inv h
  cases h
  refine ⟨rfl, fun i hi => ?_⟩
  have f1 := st_suf (suf_expr (rest s)) e1
  have f2 : s2.toks <:+ s1.toks ∧ NI a2 := by
    split at e2
    · exact ⟨(st_suf (suf_expr _) e2).trans (suf_rest _), expr_ni e2⟩
    · cases e2; exact ⟨List.suffix_refl _, ni_none _⟩
  have hr : ∀ s' : St, s'.toks <:+ (rest s).toks → (rest s').toks <:+ (rest s).toks := fun s' h' => (suf_rest s').trans h'
  unfold T.of at hi
  rw [itemsT, show isList 32 = false from rfl, itemsG, itemsG, itemsG, itemsG] at hi
  rw [show itemsT a1 = [] from expr_ni e1, show itemsT a2 = [] from f2.2] at hi
  simp only [Bool.false_eq_true, if_false, List.nil_append, List.append_nil] at hi
  exact (pos_block hp hb ht _ _ _ e3 i hi).mono (hr _ (f2.1.trans f1))
theorem statement_off : ∀ k, Beg E (statement E k) ∧ Pos E (statement E k)
  | 0 => ⟨fun s t s1 h => by rw [statement] at h; exact (wrong_ok h).elim, fun s t s1 h => by rw [statement] at h; exact (wrong_ok h).elim⟩
  | k + 1 => by
    have hall : ∀ s t s1, statement E (k + 1) s = .ok t s1 → (t.off = offOf E s ∧ text E s ≠ [101, 108, 115, 101] ∧ s.toks ≠ []) ∧ ∀ i ∈ itemsT t, AtTok i (rest s).toks := by
      intro s t s1 h
      rw [statement] at h
      by_cases hc : accepts E [97, 115, 115, 101, 114, 116] s = true
      · rw [if_pos hc] at h; exact ⟨word_beg hc (by decide) (by decide) (claim_off rfl h).1, pos_ni (claim_off rfl h).2 _⟩
      rw [if_neg hc] at h
      clear hc
      by_cases hc : accepts E [97, 119, 97, 105, 116] s = true
      · rw [if_pos hc] at h; exact ⟨word_beg hc (by decide) (by decide) (claim_off rfl h).1, pos_ni (claim_off rfl h).2 _⟩
      rw [if_neg hc] at h
      clear hc
      by_cases hc : accepts E [102, 101, 110, 99, 101] s = true
      · rw [if_pos hc] at h; exact ⟨word_beg hc (by decide) (by decide) (bare_off rfl h).1, pos_ni (bare_off rfl h).2 _⟩
      rw [if_neg hc] at h
      clear hc
      by_cases hc : accepts E [115, 107, 105, 112] s = true
      · rw [if_pos hc] at h; exact ⟨word_beg hc (by decide) (by decide) (bare_off rfl h).1, pos_ni (bare_off rfl h).2 _⟩
      rw [if_neg hc] at h
      clear hc
      by_cases hc : accepts E [97, 116, 111, 109, 105, 99] s = true
      · rw [if_pos hc] at h; exact ⟨word_beg hc (by decide) (by decide) (atomic_off h).1, pos_ni (atomic_off h).2 _⟩
      rw [if_neg hc] at h
      clear hc
      by_cases hc : accepts E [99, 97, 115] s = true
      · rw [if_pos hc] at h; exact ⟨word_beg hc (by decide) (by decide) (cas_off h).1, pos_ni (cas_off h).2 _⟩
      rw [if_neg hc] at h
      clear hc
      by_cases hc : accepts E [97, 99, 113, 117, 105, 114, 101] s = true
      · rw [if_pos hc] at h; exact ⟨word_beg hc (by decide) (by decide) (named_off rfl h).1, pos_ni (named_off rfl h).2 _⟩
      rw [if_neg hc] at h
      clear hc
      by_cases hc : accepts E [102, 114, 101, 101] s = true
      · rw [if_pos hc] at h; exact ⟨word_beg hc (by decide) (by decide) (named_off rfl h).1, pos_ni (named_off rfl h).2 _⟩
      rw [if_neg hc] at h
      clear hc
      by_cases hc : accepts E [115, 112, 97, 119, 110] s = true
      · rw [if_pos hc] at h; exact ⟨word_beg hc (by decide) (by decide) (named_off rfl h).1, pos_ni (named_off rfl h).2 _⟩
      rw [if_neg hc] at h
      clear hc
      by_cases hc : accepts E [106, 111, 105, 110] s = true
      · rw [if_pos hc] at h; exact ⟨word_beg hc (by decide) (by decide) (named_off rfl h).1, pos_ni (named_off rfl h).2 _⟩
      rw [if_neg hc] at h
      clear hc
      by_cases hc : accepts E [105, 102] s = true
      · rw [if_pos hc] at h
        have hh := branch_off (statement_off k).2 (statement_off k).1 (takes_statement k) h
        exact ⟨word_beg hc (by decide) (by decide) hh.1, hh.2⟩
      rw [if_neg hc] at h
      clear hc
      by_cases hc : accepts E [119, 104, 105, 108, 101] s = true
      · rw [if_pos hc] at h
        have hh := loop_off (statement_off k).2 (statement_off k).1 (takes_statement k) h
        exact ⟨word_beg hc (by decide) (by decide) hh.1, hh.2⟩
      rw [if_neg hc] at h
      clear hc
      by_cases hc : accepts E [99, 97, 108, 108] s = true
      · rw [if_pos hc] at h; exact ⟨word_beg hc (by decide) (by decide) (call_off h).1, pos_ni (call_off h).2 _⟩
      rw [if_neg hc] at h
      clear hc
      by_cases hc : accepts E [103, 104, 111, 115, 116] s = true ∨ accepts E [108, 111, 99, 97, 108] s = true
      · rw [if_pos hc] at h; exact ⟨⟨(plocal_off h).1, (plocal_off h).2.2⟩, pos_ni (plocal_off h).2.1 _⟩
      · rw [if_neg hc] at h; exact ⟨⟨(assignment_off h).1, (assignment_off h).2.2⟩, pos_ni (assignment_off h).2.1 _⟩
    exact ⟨fun s t s1 h => (hall s t s1 h).1, fun s t s1 h => (hall s t s1 h).2⟩
theorem beg_stmt : Beg E (stmt E) := fun s t s1 h => (statement_off _).1 s t s1 h
theorem pos_stmt : Pos E (stmt E) := fun s t s1 h => (statement_off _).2 s t s1 h
theorem declaration_off : Beg E (declaration E) ∧ Pos E (declaration E) := by
  have hall : ∀ s t s1, declaration E s = .ok t s1 → (t.off = offOf E s ∧ text E s ≠ [101, 108, 115, 101] ∧ s.toks ≠ []) ∧ ∀ i ∈ itemsT t, AtTok i (rest s).toks := by
    intro s t s1 h
    have hr : ∀ s' : St, s'.toks <:+ (rest s).toks → (rest s').toks <:+ (rest s).toks := fun s' h' => (suf_rest s').trans h'
    unfold declaration at h
    by_cases hc : accepts E [114, 101, 99, 111, 114, 100] s = true
    · rw [if_pos hc] at h
      unfold record at h
      obtain ⟨a1, s1, e1, h⟩ := bind_inv h
      obtain ⟨a2, s2, e2, h⟩ := bind_inv h
      cases h
      refine ⟨word_beg hc (by decide) (by decide) rfl, fun i hi => ?_⟩
      unfold T.named at hi
      rw [itemsT] at hi
      exact (pos_list pos_field beg_field takes_field e2 i hi).mono (hr _ (st_suf (suf_name _) e1))
    rw [if_neg hc] at h
    clear hc
    by_cases hc : accepts E [108, 111, 99, 107] s = true
    · rw [if_pos hc] at h
      unfold lock at h
      obtain ⟨a1, s1, e1, h⟩ := bind_inv h
      obtain ⟨a2, s2, e2, h⟩ := bind_inv h
      obtain ⟨a3, s3, e3, h⟩ := bind_inv h
      obtain ⟨a4, s4, e4, h⟩ := bind_inv h
      cases h
      exact ⟨word_beg hc (by decide) (by decide) rfl, pos_ni (ni_mk rfl (nil_cons (expr_ni e3) nil_nil)) _⟩
    rw [if_neg hc] at h
    clear hc
    by_cases hc : accepts E [114, 101, 108, 121] s = true
    · rw [if_pos hc] at h
      exact ⟨word_beg hc (by decide) (by decide) (claim_off rfl h).1, pos_ni (claim_off rfl h).2 _⟩
    rw [if_neg hc] at h
    clear hc
    by_cases hc : accepts E [103, 117, 97, 114, 97, 110, 116, 101, 101] s = true
    · rw [if_pos hc] at h
      exact ⟨word_beg hc (by decide) (by decide) (claim_off rfl h).1, pos_ni (claim_off rfl h).2 _⟩
    rw [if_neg hc] at h
    clear hc
    by_cases hc : accepts E [102, 114, 97, 109, 101] s = true
    · rw [if_pos hc] at h
      unfold frame at h
      obtain ⟨a1, s1, e1, h⟩ := bind_inv h
      obtain ⟨a2, s2, e2, h⟩ := bind_inv h
      cases h
      refine ⟨word_beg hc (by decide) (by decide) rfl, pos_ni (ni_mk rfl (separated_ni (fun _ _ _ h => ?_) e1)) _⟩
      unfold pvar at h
      obtain ⟨a3, s3, e3, h⟩ := bind_inv h
      cases h
      exact ni_mk rfl nil_nil
    rw [if_neg hc] at h
    clear hc
    by_cases hc : accepts E [112, 114, 111, 99] s = true
    · rw [if_pos hc] at h
      unfold proc at h
      obtain ⟨a1, s1, e1, h⟩ := bind_inv h
      obtain ⟨a2, s2, e2, h⟩ := bind_inv h
      obtain ⟨a3, s3, e3, h⟩ := bind_inv h
      obtain ⟨a4, s4, e4, h⟩ := bind_inv h
      cases h
      refine ⟨word_beg hc (by decide) (by decide) rfl, fun i hi => ?_⟩
      have f1 := st_suf (suf_name (rest s)) e1
      have f2 := st_suf (suf_tuple suf_param _) e2
      have f3 : s3.toks <:+ s2.toks := by
        split at e3
        · exact (st_suf (suf_name _) e3).trans (suf_rest _)
        · cases e3; exact List.suffix_refl _
      have hn : itemsG false a2 = [] := tuple_ni (fun _ _ _ h => by
        unfold param at h
        obtain ⟨a5, s5, e5, h⟩ := bind_inv h
        cases h
        exact ni_mk rfl nil_nil) e2
      rw [itemsT, show isList 57 = false from rfl, items_app, hn, itemsG, itemsG] at hi
      simp only [Bool.false_eq_true, if_false, List.nil_append, List.append_nil] at hi
      exact (pos_block pos_stmt beg_stmt takes_stmt _ _ _ e4 i hi).mono (hr _ (f3.trans (f2.trans f1)))
    rw [if_neg hc] at h
    clear hc
    unfold shared at h
    obtain ⟨a1, s1, e1, h⟩ := bind_inv h
    obtain ⟨a2, s2, e2, h⟩ := bind_inv h
    obtain ⟨a3, s3, e3, h⟩ := bind_inv h
    obtain ⟨a4, s4, e4, h⟩ := bind_inv h
    obtain ⟨a5, s5, e5, h⟩ := bind_inv h
    obtain ⟨a6, s6, e6, h⟩ := bind_inv h
    obtain ⟨a7, s7, e7, h⟩ := bind_inv h
    cases h
    exact ⟨⟨rfl, acc_text (exp_text e1 (by decide) (by decide)) (by decide) (by decide)⟩, pos_ni (ni_mk rfl nil_nil) _⟩
  exact ⟨fun s t s1 h => (hall s t s1 h).1, fun s t s1 h => (hall s t s1 h).2⟩
theorem unit_off : Beg E (unit E) ∧ Pos E (unit E) := by
  have hall : ∀ s t s1, unit E s = .ok t s1 → (t.off = offOf E s ∧ text E s ≠ [101, 108, 115, 101] ∧ s.toks ≠ []) ∧ ∀ i ∈ itemsT t, AtTok i (rest s).toks := by
    intro s t s1 h
    have hr : ∀ s' : St, s'.toks <:+ (rest s).toks → (rest s').toks <:+ (rest s).toks := fun s' h' => (suf_rest s').trans h'
    unfold unit at h
    by_cases hc : accepts E [109, 111, 100, 117, 108, 101] s = true
    · rw [if_pos hc] at h
      unfold module at h
      obtain ⟨a1, s1, e1, h⟩ := bind_inv h
      obtain ⟨a2, s2, e2, h⟩ := bind_inv h
      obtain ⟨a3, s3, e3, h⟩ := bind_inv h
      obtain ⟨a4, s4, e4, h⟩ := bind_inv h
      cases h
      refine ⟨word_beg hc (by decide) (by decide) rfl, fun i hi => ?_⟩
      rw [itemsT] at hi
      exact (pos_list declaration_off.2 declaration_off.1 takes_declaration e4 i hi).mono (hr _ ((st_suf (suf_name _) e3).trans ((st_suf (suf_expect _ _) e2).trans (st_suf (suf_name _) e1))))
    rw [if_neg hc] at h
    unfold thread at h
    obtain ⟨a1, s1, e1, h⟩ := bind_inv h
    obtain ⟨a2, s2, e2, h⟩ := bind_inv h
    obtain ⟨a3, s3, e3, h⟩ := bind_inv h
    obtain ⟨a4, s4, e4, h⟩ := bind_inv h
    obtain ⟨a5, s5, e5, h⟩ := bind_inv h
    obtain ⟨a6, s6, e6, h⟩ := bind_inv h
    cases h
    refine ⟨⟨rfl, acc_text (exp_text e1 (by decide) (by decide)) (by decide) (by decide)⟩, pos_ni (ni_mk rfl (tuple_ni (fun _ _ _ h => ?_) e5)) _⟩
    unfold numeral at h
    obtain ⟨a7, s7, e7, h⟩ := bind_inv h
    cases h
    exact ni_mk rfl nil_nil
  exact ⟨fun s t s1 h => (hall s t s1 h).1, fun s t s1 h => (hall s t s1 h).2⟩
end Go.Proofs.YtdiogcedlppioaaGreatDoor.Px

