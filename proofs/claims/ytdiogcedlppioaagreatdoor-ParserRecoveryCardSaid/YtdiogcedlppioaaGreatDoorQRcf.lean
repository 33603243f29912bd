/-
  A wrong item before an item of a block, a record, a module, a source.
-/
import Derived.Test.YtdiogcedlppioaaGreatDoorQRce
set_option linter.unusedVariables false
set_option linter.unusedSimpArgs false
namespace Go.Proofs.YtdiogcedlppioaaGreatDoor.Px
open Lx (Tok)
variable {E F : Nat} {Q S : Tok} {yr : List Tok} {tx : Tok} {xr : List Tok}

theorem ins_list (H : Hx (tx :: xr) Q S yr) (hx : (tx :: xr).Pairwise (fun a b => a.off < b.off)) {N N' : Nat} {rd rd' : St → Res T} (R : Rds E F tx xr Q S yr N N' rd rd') {s s' s1 : St} {m : List T} (hN : left s ≤ N + 1) (hN' : left s' ≤ N' + 1)
    (h : Sim (P1 E F (tx :: xr) Q S yr) s s') (hz : s.braces = 0) (hp : s.toks.Pairwise (fun a b => a.off < b.off)) (e : list E rd s = .ok m s1) (hd : s1.diags = []) (hi : (tx.off : Int) ∈ itemsG true m) :
    ∃ m' s1', list F rd' s' = .ok m' s1' ∧ RelL tt m m' ∧ Sim (P2 E F Q) s1 s1' := by
  have L := not_edge hx h (pos_list R.pos R.beg R.t e _ hi)
  unfold list at e ⊢
  obtain ⟨a1, s2, e1, e2⟩ := bind_inv e
  obtain ⟨hc, rfl⟩ := expect_inv e1
  have hc' : accepts F [123] s' = true := (L.acc [123]).trans hc
  have l1 := acc_left hc (by decide)
  have l1' := acc_left hc' (by decide)
  obtain ⟨m', s1', r1, r2, r3⟩ := ins_listGo H R _ _ _ _ (Nat.le_refl _) (Nat.le_refl _) (by omega) (by omega) (relL_nil _) L.next hz (hp.sublist (suf_rest s).sublist) e2 hd ⟨m, by simp, hi⟩
  refine ⟨m', s1', ?_, r2, r3⟩
  unfold expect
  rw [if_pos hc']
  exact r1
theorem ins_block (H : Hx (tx :: xr) Q S yr) (hx : (tx :: xr).Pairwise (fun a b => a.off < b.off)) {N N' : Nat} {rd rd' : St → Res T} (R : Rds E F tx xr Q S yr N N' rd rd') {s s' s1 : St} {t : T} (hN : left s ≤ N + 1) (hN' : left s' ≤ N' + 1)
    (h : Sim (P1 E F (tx :: xr) Q S yr) s s') (hz : s.braces = 0) (hp : s.toks.Pairwise (fun a b => a.off < b.off)) (e : block E rd s = .ok t s1) (hd : s1.diags = []) (hi : (tx.off : Int) ∈ itemsT t) :
    ∃ t' s1', block F rd' s' = .ok t' s1' ∧ RelT tt t t' ∧ Sim (P2 E F Q) s1 s1' := by
  unfold block at e ⊢
  obtain ⟨a1, s2, e1, e2⟩ := bind_inv e
  cases e2
  unfold T.of at hi
  rw [itemsT] at hi
  obtain ⟨m', s1', r1, r2, r3⟩ := ins_list H hx R hN hN' h hz hp e1 hd hi
  refine ⟨T.of 34 (offOf F s') m', s1', ?_, relT_mk trivial r2, r3⟩
  rw [r1]
  rfl
theorem block_two {N N' : Nat} {rd rd' : St → Res T} (R : Rds E F tx xr Q S yr N N' rd rd') {s s' s1 : St} {t : T} (hN : left s ≤ N + 1) (hN' : left s' ≤ N' + 1) (h : Sim (P2 E F Q) s s') (e : block E rd s = .ok t s1) :
    ∃ t' s1', block F rd' s' = .ok t' s1' ∧ RelT tt t t' ∧ Sim (P2 E F Q) s1 s1' :=
  two_ok (sim_block ok2 R.u R.u' R.t R.t' N N' R.two hN hN' h).rel e

theorem ins_branch (H : Hx (tx :: xr) Q S yr) (hx : (tx :: xr).Pairwise (fun a b => a.off < b.off)) {N N' : Nat} {rd rd' : St → Res T} (R : Rds E F tx xr Q S yr N N' rd rd') {s s' s3 : St} {t : T} (hN : left s ≤ N + 2) (hN' : left s' ≤ N' + 2)
    (hc : left (rest s) + 1 = left s) (hc' : left (rest s') + 1 = left s') (L : Live (P1 E F (tx :: xr) Q S yr) s s') (hz : s.braces = 0) (hp : s.toks.Pairwise (fun a b => a.off < b.off)) (e : branch E rd s = .ok t s3) (hd : s3.diags = []) (hi : (tx.off : Int) ∈ itemsT t) :
    ∃ t' s1', branch F rd' s' = .ok t' s1' ∧ RelT tt t t' ∧ Sim (P2 E F Q) s3 s1' := by
  unfold branch at e ⊢
  obtain ⟨a1, s1, e1, e⟩ := bind_inv e
  obtain ⟨a2, s2, e2, e⟩ := bind_inv e
  obtain ⟨a3, s4, e3, e⟩ := bind_inv e
  cases e
  have f1 := st_suf (suf_expr (rest s)) e1
  have f2 := st_suf (suf_block R.t s1) e2
  have l1 := f1.length_le
  have l2 := f2.length_le
  have z1 : s1.braces = 0 := z_expr (rest s) _ _ e1 hz
  have p1 := (hp.sublist (suf_rest s).sublist).sublist f1.sublist
  have d2 : s2.diags = [] := by
    split at e3
    · have := diags_back (un_block (px E) R.u _) e3 hd
      exact this
    · cases e3; exact hd
  have hpb2 := pos_block R.pos R.beg R.t _ _ _ e2
  unfold T.of at hi
  rw [itemsT, show isList 31 = false from rfl, itemsG, itemsG, itemsG, itemsG] at hi
  rw [show itemsT a1 = [] from expr_ni e1] at hi
  simp only [Bool.false_eq_true, if_false, List.nil_append, List.append_nil] at hi
  rcases List.mem_append.1 hi with hi | hi
  · obtain ⟨a1', s1', r1, v1, h1⟩ := only_ok hx (sim_expr L.next) e1 (hpb2 _ hi)
    have r1 : expr F (rest s') = .ok a1' s1' := r1
    have l1' := (st_suf (suf_expr (rest s')) r1).length_le
    obtain ⟨a2', s2', r2, v2, h2⟩ := ins_block H hx R (by unfold left at *; omega) (by unfold left at *; omega) h1 z1 p1 e2 d2 hi
    have L2 := two_live h2
    have l2' := (st_suf (suf_block R.t' s1') r2).length_le
    have hthird : ∃ a3' s3', (if accepts F [101, 108, 115, 101] s2' = true then block F rd' (rest s2') else .ok (T.of 34 (offOf F s') []) s2') = .ok a3' s3' ∧ RelT tt a3 a3' ∧ Sim (P2 E F Q) s3 s3' := by
      rw [show accepts F [101, 108, 115, 101] s2' = accepts E [101, 108, 115, 101] s2 from L2.acc [101, 108, 115, 101]]
      by_cases hcc : accepts E [101, 108, 115, 101] s2 = true
      · rw [if_pos hcc] at e3 ⊢
        have := acc_left hcc (by decide)
        have := acc_left (E := F) ((L2.acc [101, 108, 115, 101]).trans hcc) (by decide)
        exact block_two R (by unfold left at *; omega) (by unfold left at *; omega) L2.next e3
      · rw [if_neg hcc] at e3 ⊢
        cases e3
        exact ⟨_, _, rfl, relT_mk trivial (relL_nil _), h2⟩
    obtain ⟨a3', s3', r3, v3, h3⟩ := hthird
    refine ⟨T.of 31 (offOf F s') [a1', a2', a3'], s3', ?_, relT_mk trivial (relL_cons v1 (relL_cons v2 (relL_cons v3 (relL_nil _)))), h3⟩
    rw [r1, Res.bind_ok, r2, Res.bind_ok, r3]
    rfl
  · by_cases hcc : accepts E [101, 108, 115, 101] s2 = true
    · rw [if_pos hcc] at e3
      have hpb3 := pos_block R.pos R.beg R.t _ _ _ e3 _ hi
      have ha2 : AtTok (tx.off : Int) (rest s2).toks := hpb3.mono (suf_rest _)
      have ha1 : AtTok (tx.off : Int) (rest s1).toks := ha2.mono (rest_mono f2)
      obtain ⟨a1', s1', r1, v1, h1⟩ := only_ok hx (sim_expr L.next) e1 ha1
      have r1 : expr F (rest s') = .ok a1' s1' := r1
      have l1' := (st_suf (suf_expr (rest s')) r1).length_le
      obtain ⟨a2', s2', r2, v2, h2⟩ := only_ok hx (sim_block ok1 R.u R.u' R.t R.t' N N' R.rel (by unfold left at *; omega) (by unfold left at *; omega) h1).rel e2 ha2
      have r2 : block F rd' s1' = .ok a2' s2' := r2
      have L2 := not_edge hx h2 ha2
      have l2' := (st_suf (suf_block R.t' s1') r2).length_le
      have hcc' : accepts F [101, 108, 115, 101] s2' = true := (L2.acc [101, 108, 115, 101]).trans hcc
      have q1 := acc_left hcc (by decide)
      have q2 := acc_left hcc' (by decide)
      have z2 : s2.braces = 0 := z_block R.z s1 _ _ e2 z1
      obtain ⟨a3', s3', r3, v3, h3⟩ := ins_block H hx R (by unfold left at *; omega) (by unfold left at *; omega) L2.next z2 (p1.sublist ((suf_rest s2).trans f2).sublist) e3 hd hi
      refine ⟨T.of 31 (offOf F s') [a1', a2', a3'], s3', ?_, relT_mk trivial (relL_cons v1 (relL_cons v2 (relL_cons v3 (relL_nil _)))), h3⟩
      rw [r1, Res.bind_ok, r2, Res.bind_ok, if_pos hcc', r3]
      rfl
    · rw [if_neg hcc] at e3
      cases e3
      unfold T.of at hi
      rw [itemsT, itemsG] at hi
      cases hi
theorem ins_loop (H : Hx (tx :: xr) Q S yr) (hx : (tx :: xr).Pairwise (fun a b => a.off < b.off)) {N N' : Nat} {rd rd' : St → Res T} (R : Rds E F tx xr Q S yr N N' rd rd') {s s' s3 : St} {t : T} (hN : left s ≤ N + 2) (hN' : left s' ≤ N' + 2)
    (hc : left (rest s) + 1 = left s) (hc' : left (rest s') + 1 = left s') (L : Live (P1 E F (tx :: xr) Q S yr) s s') (hz : s.braces = 0) (hp : s.toks.Pairwise (fun a b => a.off < b.off)) (e : loop E rd s = .ok t s3) (hd : s3.diags = []) (hi : (tx.off : Int) ∈ itemsT t) :
    ∃ t' s1', loop F rd' s' = .ok t' s1' ∧ RelT tt t t' ∧ Sim (P2 E F Q) s3 s1' := by
  unfold loop at e ⊢
  obtain ⟨a1, s1, e1, e⟩ := bind_inv e
  obtain ⟨a2, s2, e2, e⟩ := bind_inv e
  obtain ⟨a3, s4, e3, e⟩ := bind_inv e
  cases e
  have f1 := st_suf (suf_expr (rest s)) e1
  have l1 := f1.length_le
  have z1 : s1.braces = 0 := z_expr (rest s) _ _ e1 hz
  have p1 := (hp.sublist (suf_rest s).sublist).sublist f1.sublist
  have g2 : s2.toks <:+ s1.toks ∧ NI a2 ∧ s2.braces = 0 := by
    split at e2
    · exact ⟨(st_suf (suf_expr _) e2).trans (suf_rest _), expr_ni e2, z_expr (rest s1) _ _ e2 z1⟩
    · cases e2; exact ⟨List.suffix_refl _, ni_none _, z1⟩
  have l2 := g2.1.length_le
  unfold T.of at hi
  rw [itemsT, show isList 32 = false from rfl, itemsG, itemsG, itemsG, itemsG] at hi
  rw [show itemsT a1 = [] from expr_ni e1, show itemsT a2 = [] from g2.2.1] at hi
  simp only [Bool.false_eq_true, if_false, List.nil_append, List.append_nil] at hi
  have hat := pos_block R.pos R.beg R.t _ _ _ e3 _ hi
  have ha1 : AtTok (tx.off : Int) (rest s1).toks := hat.mono (rest_mono g2.1)
  obtain ⟨a1', s1', r1, v1, h1⟩ := only_ok hx (sim_expr L.next) e1 ha1
  have r1 : expr F (rest s') = .ok a1' s1' := r1
  have l1' := (st_suf (suf_expr (rest s')) r1).length_le
  have L1 := not_edge hx h1 ha1
  have hsec : ∃ a2' s2', (if accepts F [118, 97, 114, 105, 97, 110, 116] s1' = true then expr F (rest s1') else .ok (none (offOf F s')) s1') = .ok a2' s2' ∧ RelT tt a2 a2' ∧ Sim (P1 E F (tx :: xr) Q S yr) s2 s2' ∧ left s2' ≤ left s1' := by
    rw [show accepts F [118, 97, 114, 105, 97, 110, 116] s1' = accepts E [118, 97, 114, 105, 97, 110, 116] s1 from L1.acc [118, 97, 114, 105, 97, 110, 116]]
    by_cases hcc : accepts E [118, 97, 114, 105, 97, 110, 116] s1 = true
    · rw [if_pos hcc] at e2 ⊢
      obtain ⟨b, u, w1, w2, w3⟩ := only_ok hx (sim_expr L1.next) e2 hat
      exact ⟨b, u, w1, w2, w3, ((st_suf (suf_expr _) w1).trans (suf_rest _)).length_le⟩
    · rw [if_neg hcc] at e2 ⊢
      cases e2
      exact ⟨_, _, rfl, relT_mk trivial (relL_nil _), h1, Nat.le_refl _⟩
  obtain ⟨a2', s2', r2, v2, h2, l2'⟩ := hsec
  obtain ⟨a3', s3', r3, v3, h3⟩ := ins_block H hx R (by unfold left at *; omega) (by unfold left at *; omega) h2 g2.2.2 (p1.sublist g2.1.sublist) e3 hd hi
  refine ⟨T.of 32 (offOf F s') [a1', a2', a3'], s3', ?_, relT_mk trivial (relL_cons v1 (relL_cons v2 (relL_cons v3 (relL_nil _)))), h3⟩
  rw [r1, Res.bind_ok, r2, Res.bind_ok, r3]
  rfl
theorem ni_no {t : T} {i : Int} (h : NI t) (hi : i ∈ itemsT t) : False := by unfold NI at h; rw [h] at hi; cases hi

set_option maxRecDepth 100000 in
set_option maxHeartbeats 2000000 in
theorem ins_step (H : Hx (tx :: xr) Q S yr) (hx : (tx :: xr).Pairwise (fun a b => a.off < b.off)) (k k' : Nat) (ih : ∀ j j', j + 1 = k → Rds E F tx xr Q S yr j j' (statement E (j + 1)) (statement F (j' + 1))) : Rds E F tx xr Q S yr k k' (statement E (k + 1)) (statement F (k' + 1)) := by
    refine ⟨uns_statement (px E) _, uns_statement (px F) _, takes_statement _, takes_statement _, zs_statement _, (statement_off _).2, (statement_off _).1, bad_statement H.q _, ?_, ?_, ?_, ?_⟩
    · intro s s' h1 h2 ne h
      exact relj_statement ok1 ne _ _ (by omega) (by omega) h
    · intro s s' h1 h2 h
      exact sim_statement ok1 _ _ (by omega) (by omega) h
    · intro s s' h1 h2 h
      exact sim_statement ok2 _ _ (by omega) (by omega) h
    · intro s s' t s1 hN hN' h hz hp e hd hi
      have L := not_edge hx h ((statement_off _).2 _ _ _ e _ hi)
      rw [statement] at e ⊢
      have hacc : ∀ w, accepts F w s' = accepts E w s := fun w => L.acc w
      simp only [hacc]
      by_cases hc : accepts E [97, 115, 115, 101, 114, 116] s = true
      · exfalso; rw [if_pos hc] at e; exact ni_no (claim_off rfl e).2 hi
      rw [if_neg hc] at e ⊢
      clear hc
      by_cases hc : accepts E [97, 119, 97, 105, 116] s = true
      · exfalso; rw [if_pos hc] at e; exact ni_no (claim_off rfl e).2 hi
      rw [if_neg hc] at e ⊢
      clear hc
      by_cases hc : accepts E [102, 101, 110, 99, 101] s = true
      · exfalso; rw [if_pos hc] at e; exact ni_no (bare_off rfl e).2 hi
      rw [if_neg hc] at e ⊢
      clear hc
      by_cases hc : accepts E [115, 107, 105, 112] s = true
      · exfalso; rw [if_pos hc] at e; exact ni_no (bare_off rfl e).2 hi
      rw [if_neg hc] at e ⊢
      clear hc
      by_cases hc : accepts E [97, 116, 111, 109, 105, 99] s = true
      · exfalso; rw [if_pos hc] at e; exact ni_no (atomic_off e).2 hi
      rw [if_neg hc] at e ⊢
      clear hc
      by_cases hc : accepts E [99, 97, 115] s = true
      · exfalso; rw [if_pos hc] at e; exact ni_no (cas_off e).2 hi
      rw [if_neg hc] at e ⊢
      clear hc
      by_cases hc : accepts E [97, 99, 113, 117, 105, 114, 101] s = true
      · exfalso; rw [if_pos hc] at e; exact ni_no (named_off rfl e).2 hi
      rw [if_neg hc] at e ⊢
      clear hc
      by_cases hc : accepts E [102, 114, 101, 101] s = true
      · exfalso; rw [if_pos hc] at e; exact ni_no (named_off rfl e).2 hi
      rw [if_neg hc] at e ⊢
      clear hc
      by_cases hc : accepts E [115, 112, 97, 119, 110] s = true
      · exfalso; rw [if_pos hc] at e; exact ni_no (named_off rfl e).2 hi
      rw [if_neg hc] at e ⊢
      clear hc
      by_cases hc : accepts E [106, 111, 105, 110] s = true
      · exfalso; rw [if_pos hc] at e; exact ni_no (named_off rfl e).2 hi
      rw [if_neg hc] at e ⊢
      clear hc
      by_cases hc : accepts E [105, 102] s = true
      · rw [if_pos hc] at e ⊢
        have l1 := acc_left hc (by decide)
        have l1' := acc_left (E := F) ((hacc _).trans hc) (by decide)
        obtain ⟨j, rfl⟩ : ∃ j, k = j + 1 := ⟨k - 1, by omega⟩
        obtain ⟨j', rfl⟩ : ∃ j, k' = j + 1 := ⟨k' - 1, by omega⟩
        exact ins_branch H hx (ih j j' rfl) (by omega) (by omega) l1 l1' L hz hp e hd hi
      rw [if_neg hc] at e ⊢
      clear hc
      by_cases hc : accepts E [119, 104, 105, 108, 101] s = true
      · rw [if_pos hc] at e ⊢
        have l1 := acc_left hc (by decide)
        have l1' := acc_left (E := F) ((hacc _).trans hc) (by decide)
        obtain ⟨j, rfl⟩ : ∃ j, k = j + 1 := ⟨k - 1, by omega⟩
        obtain ⟨j', rfl⟩ : ∃ j, k' = j + 1 := ⟨k' - 1, by omega⟩
        exact ins_loop H hx (ih j j' rfl) (by omega) (by omega) l1 l1' L hz hp e hd hi
      rw [if_neg hc] at e ⊢
      clear hc
      by_cases hc : accepts E [99, 97, 108, 108] s = true
      · exfalso; rw [if_pos hc] at e; exact ni_no (call_off e).2 hi
      rw [if_neg hc] at e ⊢
      clear hc
      by_cases hc : accepts E [103, 104, 111, 115, 116] s = true ∨ accepts E [108, 111, 99, 97, 108] s = true
      · exfalso; rw [if_pos hc] at e; exact ni_no (plocal_off e).2.1 hi
      · exfalso; rw [if_neg hc] at e; exact ni_no (assignment_off e).2.1 hi
/-- statements with enough fuel -/
theorem ins_statement (H : Hx (tx :: xr) Q S yr) (hx : (tx :: xr).Pairwise (fun a b => a.off < b.off)) : ∀ k k', Rds E F tx xr Q S yr k k' (statement E (k + 1)) (statement F (k' + 1))
  | 0, k' => ins_step H hx 0 k' (fun j j' h => absurd h (by omega))
  | k + 1, k' => ins_step H hx (k + 1) k' (fun j j' h => by
    obtain rfl : j = k := by omega
    exact ins_statement H hx j j')
theorem ins_stmt (H : Hx (tx :: xr) Q S yr) (hx : (tx :: xr).Pairwise (fun a b => a.off < b.off)) (N N' : Nat) : Rds E F tx xr Q S yr N N' (stmt E) (stmt F) := by
  have hst : ∀ s : St, stmt E s = statement E (left s + 1) s := fun s => rfl
  have hst' : ∀ s : St, stmt F s = statement F (left s + 1) s := fun s => rfl
  refine ⟨uns_stmt (px E), uns_stmt (px F), takes_stmt, takes_stmt, zs_stmt, pos_stmt, beg_stmt, fun s r hs => bad_statement H.q _ s r hs, ?_, ?_, ?_, ?_⟩
  · intro s s' h1 h2 ne h
    exact relj_stmt ok1 ne h
  · intro s s' h1 h2 h
    exact sim_stmt ok1 h
  · intro s s' h1 h2 h
    exact sim_stmt ok2 h
  · intro s s' t s1 hN hN' h hz hp e hd hi
    exact (ins_statement H hx (left s) (left s')).ins s s' t s1 (Nat.le_refl _) (Nat.le_refl _) h hz hp e hd hi
theorem ins_field (H : Hx (tx :: xr) Q S yr) (N N' : Nat) : Rds E F tx xr Q S yr N N' (field E) (field F) := by
  refine ⟨uns_field (px E), uns_field (px F), takes_field, takes_field, zs_field, pos_field, beg_field, bad_field H.q.1, ?_, ?_, ?_, ?_⟩
  · intro s s' h1 h2 ne h
    exact relj_field h
  · intro s s' h1 h2 h
    exact sim_field h
  · intro s s' h1 h2 h
    exact sim_field h
  · intro s s' t s1 hN hN' h hz hp e hd hi
    exfalso
    unfold field at e
    obtain ⟨a1, s2, e1, e⟩ := bind_inv e
    obtain ⟨a2, s3, e2, e⟩ := bind_inv e
    cases e
    exact ni_no (ni_mk rfl nil_nil) hi
theorem ins_declaration (H : Hx (tx :: xr) Q S yr) (hx : (tx :: xr).Pairwise (fun a b => a.off < b.off)) (N N' : Nat) : Rds E F tx xr Q S yr N N' (declaration E) (declaration F) := by
  refine ⟨uns_declaration (px E), uns_declaration (px F), takes_declaration, takes_declaration, zs_declaration, declaration_off.2, declaration_off.1, bad_declaration H.q, ?_, ?_, ?_, ?_⟩
  · intro s s' h1 h2 ne h
    exact relj_declaration ok1 h
  · intro s s' h1 h2 h
    exact sim_declaration ok1 h
  · intro s s' h1 h2 h
    exact sim_declaration ok2 h
  · intro s s' t s9 hN hN' h hz hp e hd hi
    have L := not_edge hx h (declaration_off.2 _ _ _ e _ hi)
    unfold declaration at e ⊢
    have hacc : ∀ w, accepts F w s' = accepts E w s := fun w => L.acc w
    simp only [hacc]
    by_cases hc : accepts E [114, 101, 99, 111, 114, 100] s = true
    · rw [if_pos hc] at e ⊢
      unfold record at e ⊢
      obtain ⟨a1, s1, e1, e⟩ := bind_inv e
      obtain ⟨a2, s2, e2, e⟩ := bind_inv e
      cases e
      unfold T.named at hi
      rw [itemsT] at hi
      obtain ⟨a1', s1', r1, v1, h1⟩ := only_ok hx (sim_name L.next) e1 (pos_list pos_field beg_field takes_field e2 _ hi)
      have r1 : name F (rest s') = .ok a1' s1' := r1
      have f1 := st_suf (suf_name (rest s)) e1
      obtain ⟨a2', s2', r2, v2, h2⟩ := ins_list H hx (ins_field H (left s1) (left s1')) (by omega) (by omega) h1 (z_name (rest s) _ _ e1 hz) ((hp.sublist (suf_rest s).sublist).sublist f1.sublist) e2 hd hi
      refine ⟨T.named 51 (offOf F s') a1' a2', s2', ?_, ?_, h2⟩
      · rw [r1, Res.bind_ok, r2]; rfl
      · rw [v1]; exact relT_mk trivial v2
    rw [if_neg hc] at e ⊢
    clear hc
    by_cases hc : accepts E [108, 111, 99, 107] s = true
    · exfalso
      rw [if_pos hc] at e
      unfold lock at e
      obtain ⟨a1, s1, e1, e⟩ := bind_inv e
      obtain ⟨a2, s2, e2, e⟩ := bind_inv e
      obtain ⟨a3, s3, e3, e⟩ := bind_inv e
      obtain ⟨a4, s4, e4, e⟩ := bind_inv e
      cases e
      exact ni_no (ni_mk rfl (nil_cons (expr_ni e3) nil_nil)) hi
    rw [if_neg hc] at e ⊢
    clear hc
    by_cases hc : accepts E [114, 101, 108, 121] s = true
    · exfalso
      rw [if_pos hc] at e
      exact ni_no (claim_off rfl e).2 hi
    rw [if_neg hc] at e ⊢
    clear hc
    by_cases hc : accepts E [103, 117, 97, 114, 97, 110, 116, 101, 101] s = true
    · exfalso
      rw [if_pos hc] at e
      exact ni_no (claim_off rfl e).2 hi
    rw [if_neg hc] at e ⊢
    clear hc
    by_cases hc : accepts E [102, 114, 97, 109, 101] s = true
    · exfalso
      rw [if_pos hc] at e
      unfold frame at e
      obtain ⟨a1, s1, e1, e⟩ := bind_inv e
      obtain ⟨a2, s2, e2, e⟩ := bind_inv e
      cases e
      refine ni_no (ni_mk rfl (separated_ni (fun _ _ _ h => ?_) e1)) hi
      unfold pvar at h
      obtain ⟨a3, s3, e3, h⟩ := bind_inv h
      cases h
      exact ni_mk rfl nil_nil
    rw [if_neg hc] at e ⊢
    clear hc
    by_cases hc : accepts E [112, 114, 111, 99] s = true
    · rw [if_pos hc] at e ⊢
      unfold proc at e ⊢
      obtain ⟨a1, s1, e1, e⟩ := bind_inv e
      obtain ⟨a2, s2, e2, e⟩ := bind_inv e
      obtain ⟨a3, s3, e3, e⟩ := bind_inv e
      obtain ⟨a4, s4, e4, e⟩ := bind_inv e
      cases e
      have f1 := st_suf (suf_name (rest s)) e1
      have f2 := st_suf (suf_tuple suf_param _) e2
      have z1 : s1.braces = 0 := z_name (rest s) _ _ e1 hz
      have z2 : s2.braces = 0 := z_tuple z_param s1 _ _ e2 z1
      have g3 : s3.toks <:+ s2.toks ∧ s3.braces = 0 := by
        split at e3
        · exact ⟨(st_suf (suf_name _) e3).trans (suf_rest _), z_name (rest s2) _ _ e3 z2⟩
        · cases e3; exact ⟨List.suffix_refl _, z2⟩
      have hn : itemsG false a2 = [] := tuple_ni (fun _ _ _ h => by
        unfold param at h
        obtain ⟨a3, s3, e3, h⟩ := bind_inv h
        cases h
        exact ni_mk rfl nil_nil) e2
      rw [itemsT, show isList 57 = false from rfl, items_app, hn, itemsG, itemsG] at hi
      simp only [Bool.false_eq_true, if_false, List.nil_append, List.append_nil] at hi
      have hat := pos_block pos_stmt beg_stmt takes_stmt _ _ _ e4 _ hi
      have ha2 : AtTok (tx.off : Int) (rest s2).toks := hat.mono (rest_mono g3.1)
      have ha1 : AtTok (tx.off : Int) (rest s1).toks := ha2.mono (rest_mono f2)
      obtain ⟨a1', s1', r1, v1, h1⟩ := only_ok hx (sim_name L.next) e1 ha1
      have r1 : name F (rest s') = .ok a1' s1' := r1
      obtain ⟨a2', s2', r2, v2, h2⟩ := only_ok hx (sim_tuple (un_param (px _)) (un_param (px _)) sim_param h1) e2 ha2
      have r2 : tuple F (param F) s1' = .ok a2' s2' := r2
      have L2 := not_edge hx h2 ha2
      have hthird : ∃ a3' s3', (if accepts F [108, 111, 99, 107, 101, 100] s2' = true then name F (rest s2') else .ok [] s2') = .ok a3' s3' ∧ a3 = a3' ∧ Sim (P1 E F (tx :: xr) Q S yr) s3 s3' := by
        rw [show accepts F [108, 111, 99, 107, 101, 100] s2' = accepts E [108, 111, 99, 107, 101, 100] s2 from L2.acc [108, 111, 99, 107, 101, 100]]
        by_cases hcc : accepts E [108, 111, 99, 107, 101, 100] s2 = true
        · rw [if_pos hcc] at e3 ⊢
          exact only_ok hx (sim_name L2.next) e3 hat
        · rw [if_neg hcc] at e3 ⊢
          cases e3
          exact ⟨_, _, rfl, rfl, h2⟩
      obtain ⟨a3', s3', r3, v3, h3⟩ := hthird
      obtain ⟨a4', s4', r4, v4, h4⟩ := ins_block H hx (ins_stmt H hx (left s3) (left s3')) (by omega) (by omega) h3 g3.2 ((hp.sublist (suf_rest s).sublist).sublist (g3.1.trans (f2.trans f1)).sublist) e4 hd hi
      refine ⟨.mk 57 a1' a3' 0 0 0 false (a2' ++ [a4']) (offOf F s'), s4', ?_, ?_, h4⟩
      · rw [r1, Res.bind_ok, r2, Res.bind_ok, r3, Res.bind_ok, r4]; rfl
      · rw [v1, v3]; exact relT_mk trivial (relL_snoc _ _ v2 v4)
    · exfalso
      rw [if_neg hc] at e
      unfold shared at e
      obtain ⟨a1, s1, e1, e⟩ := bind_inv e
      obtain ⟨a2, s2, e2, e⟩ := bind_inv e
      obtain ⟨a3, s3, e3, e⟩ := bind_inv e
      obtain ⟨a4, s4, e4, e⟩ := bind_inv e
      obtain ⟨a5, s5, e5, e⟩ := bind_inv e
      obtain ⟨a6, s6, e6, e⟩ := bind_inv e
      obtain ⟨a7, s7, e7, e⟩ := bind_inv e
      cases e
      exact ni_no (ni_mk rfl nil_nil) hi
end Go.Proofs.YtdiogcedlppioaaGreatDoor.Px

