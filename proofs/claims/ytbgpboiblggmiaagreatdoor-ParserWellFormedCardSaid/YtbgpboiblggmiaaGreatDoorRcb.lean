/-
  The same for lists, statements, declarations and units.
-/
import Derived.Test.YtbgpboiblggmiaaGreatDoorRca
set_option linter.unusedVariables false
set_option linter.unusedSimpArgs false
namespace Go.Proofs.YtbgpboiblggmiaaGreatDoor.Px
open Lx (Tok)
variable {p : Par}

theorem lt_listGo {E : Nat} {rd : St → Res T} (ht : Takes rd) (k : Nat) (l : List T) (s : St) : Lt (listGo E rd k l s) s := by
  intro a s1 e
  cases k with
  | zero => rw [listGo] at e; unfold wrong at e; cases e
  | succ k =>
    rw [listGo] at e
    split at e
    · rename_i hc
      have := acc_left hc (by decide)
      cases e
      omega
    · rename_i hc
      cases hs : s.toks with
      | nil => rw [hs] at e; unfold wrong at e; cases e
      | cons t r =>
        rw [hs] at e
        have h1 := item_left (E := E) ht (b := true) (s := s) (by rw [hs]; simp) (.inr (by simpa using hc))
        have h2 := suf_left (suf_listGo ht k _ _) e
        omega
theorem relj_listGo (ok : p.Ok) {rd rd' : St → Res T} (hu : Uns p.E (PX p.E) rd) (hu' : Uns p.F (PX p.F) rd') (ht : Takes rd) (ht' : Takes rd') (N N' : Nat)
    (hr : ∀ {s s'}, left s ≤ N → left s' ≤ N' → Sim p s s' → Rel p (RelT p.ρ) (rd s) (rd' s')) : ∀ (k k' : Nat) (l l' : List T) {s s' : St}, left s + 1 ≤ k → left s' + 1 ≤ k' → left s ≤ N → left s' ≤ N' → RelL p.ρ l l' → Sim p s s' →
    RelJ p (RelL p.ρ) (listGo p.E rd k l s) (listGo p.F rd' k' l' s')
  | 0, _, _, _, _, _, hk, _, _, _, _, _ => absurd hk (by omega)
  | _ + 1, 0, _, _, _, _, _, hk, _, _, _, _ => absurd hk (by omega)
  | k + 1, k' + 1, l, l', s, s', hk, hk', hN, hN', hl, h => by
    rcases sim_cases h with L | hd
    rotate_left
    · exact relj_dv hd (un_listGo (px _) hu _ _ _) (un_listGo (px _) hu' _ _ _) (lt_listGo ht _ _ _)
    rw [listGo, listGo, L.acc]
    by_cases hc : accepts p.E [125] s = true
    · rw [if_pos hc, if_pos hc]
      exact relj_ok hl L.next
    · rw [if_neg hc, if_neg hc]
      have hf : accepts p.E [125] s = false := by simpa using hc
      have hn := L.nil
      cases hs : s.toks with
      | nil => rw [hn.1 hs]; exact relj_wrong L
      | cons t r =>
        cases hs' : s'.toks with
        | nil => rw [hn.2 hs'] at hs; cases hs
        | cons t' r' =>
          simp only
          have l1 := item_left (E := p.E) ht (b := true) (s := s) (by rw [hs]; simp) (.inr hf)
          have l1' := item_left (E := p.F) ht' (b := true) (s := s') (by rw [hs']; simp) (.inr (by rw [L.acc]; exact hf))
          rcases sim_item ok true (hr hN hN' h) with ⟨ho, h1⟩ | h1
          · exact relj_listGo ok hu hu' ht ht' N N' hr k k' _ _ (by omega) (by omega) (by omega) (by omega) (relL_more hl ho) h1
          · exact relj_dv h1 (un_listGo (px _) hu _ _ _) (un_listGo (px _) hu' _ _ _) (lt_listGo ht _ _ _)
theorem relj_list (ok : p.Ok) {rd rd' : St → Res T} (hu : Uns p.E (PX p.E) rd) (hu' : Uns p.F (PX p.F) rd') (ht : Takes rd) (ht' : Takes rd') (N N' : Nat)
    (hr : ∀ {s s'}, left s ≤ N → left s' ≤ N' → Sim p s s' → Rel p (RelT p.ρ) (rd s) (rd' s')) {s s' : St} (hN : left s ≤ N + 1) (hN' : left s' ≤ N' + 1) (h : Sim p s s') : RelJ p (RelL p.ρ) (list p.E rd s) (list p.F rd' s') := by
  unfold list
  refine relj_l (sim_expect _ h) (fun a a' s1 s1' e e' v h1 => ?_) (fun _ _ => un_listGo (px _) hu _ _ _) (fun _ _ => un_listGo (px _) hu' _ _ _) (fun _ _ => lt_listGo ht _ _ _)
  have := expect_left e (by decide)
  have := expect_left e' (by decide)
  exact relj_listGo ok hu hu' ht ht' N N' hr _ _ _ _ (Nat.le_refl _) (Nat.le_refl _) (by omega) (by omega) (relL_nil _) h1
theorem lt_list {E : Nat} {rd : St → Res T} (ht : Takes rd) (s : St) : Lt (list E rd s) s := by
  unfold list
  exact lt_bind' (suf_expect _ _) fun _ _ => lt_listGo ht _ _ _
theorem lt_block {E : Nat} {rd : St → Res T} (ht : Takes rd) (s : St) : Lt (block E rd s) s := by
  unfold block
  exact lt_bind (lt_list ht _) fun _ _ => suf_same _
theorem relj_block (ok : p.Ok) {rd rd' : St → Res T} (hu : Uns p.E (PX p.E) rd) (hu' : Uns p.F (PX p.F) rd') (ht : Takes rd) (ht' : Takes rd') (N N' : Nat)
    (hr : ∀ {s s'}, left s ≤ N → left s' ≤ N' → Sim p s s' → Rel p (RelT p.ρ) (rd s) (rd' s')) {s s' : St} (hN : left s ≤ N + 1) (hN' : left s' ≤ N' + 1) (h : Sim p s s') : RelJ p (RelT p.ρ) (block p.E rd s) (block p.F rd' s') := by
  rcases sim_cases h with L | hd
  rotate_left
  · exact relj_dv hd (un_block (px _) hu _) (un_block (px _) hu' _) (lt_block ht _)
  unfold block
  exact relj_bind (relj_list ok hu hu' ht ht' N N' hr hN hN' h) (fun a a' s1 s1' e e' v h1 => relj_ok (relT_mk L.off v) h1) (fun _ _ => un_same (px _) _) (fun _ _ => un_same (px _) _) (fun _ _ => suf_same _)

/-- no 'else' stands where the runs part -/
structure NoElse (p : Par) : Prop where
  x : ∀ s : St, s.toks = p.x → accepts p.E [101, 108, 115, 101] s = false
  y : ∀ s : St, s.toks = p.y → accepts p.F [101, 108, 115, 101] s = false
/-- the runs see the same, or both stand at the edge -/
theorem sim_edge {s s' : St} (h : Sim p s s') : Live p s s' ∨ (s.toks = p.x ∧ s'.toks = p.y) := by
  obtain ⟨c, c', hc, h1, h2⟩ := h.toks
  rcases sim_cases h with L | hd
  · exact .inl L
  · right
    cases c with
    | nil =>
      cases c' with
      | nil => exact ⟨h1, h2⟩
      | cons _ _ => unfold RelC at hc; exact hc.elim
    | cons t r =>
      have := hd.t1.length_le
      rw [h1] at this
      simp at this
      omega
theorem relj_branch (ok : p.Ok) (ne : NoElse p) {rd rd' : St → Res T} (hu : Uns p.E (PX p.E) rd) (hu' : Uns p.F (PX p.F) rd') (ht : Takes rd) (ht' : Takes rd') (N N' : Nat)
    (hr : ∀ {s s'}, left s ≤ N → left s' ≤ N' → Sim p s s' → Rel p (RelT p.ρ) (rd s) (rd' s')) {s s' : St} (hN : left s ≤ N + 2) (hN' : left s' ≤ N' + 2) (hc : left (rest s) + 1 = left s) (hc' : left (rest s') + 1 = left s') (L : Live p s s') :
    RelJ p (RelT p.ρ) (branch p.E rd s) (branch p.F rd' s') := by
  have hB := lt_block (E := p.E) ht
  unfold branch
  refine relj_l (sim_expr L.next) (fun a1 a1' s1 s1' e1 e1' v1 h1 => ?_) (fun _ _ => by (exact un_au)) (fun _ _ => by (exact un_au)) (fun _ _ => ?_)
  rotate_left
  · refine lt_bind (hB _) fun _ s2 => suf_bind ?_ fun _ _ _ => suf_same _
    split
    · exact suf_of (suf_block ht _) (suf_rest s2)
    · exact suf_same _
  have l1 := suf_left (suf_expr (rest s)) e1
  have l1' := suf_left (suf_expr (rest s')) e1'
  refine relj_bind (relj_block ok hu hu' ht ht' N N' hr (by omega) (by omega) h1) (fun a2 a2' s2 s2' e2 e2' v2 h2 => ?_) (fun _ _ => by (exact un_au)) (fun _ _ => by (exact un_au)) (fun _ s2 => ?_)
  rotate_left
  · refine suf_bind ?_ fun _ _ _ => suf_same _
    split
    · exact suf_of (suf_block ht _) (suf_rest s2)
    · exact suf_same _
  have l2 := suf_left (suf_block ht s1) e2
  have l2' := suf_left (suf_block ht' s1') e2'
  refine relj_bind (V := RelT p.ρ) ?_ (fun a3 a3' s3 s3' e3 e3' v3 h3 => ?_) (fun _ _ => by (exact un_au)) (fun _ _ => by (exact un_au)) (fun _ _ => suf_same _)
  · rcases sim_edge h2 with L2 | ⟨hx, hy⟩
    · rw [L2.acc]
      by_cases hc3 : accepts p.E [101, 108, 115, 101] s2 = true
      · rw [if_pos hc3, if_pos hc3]
        have := acc_left hc3 (by decide)
        have := acc_left (E := p.F) ((L2.acc _).trans hc3) (by decide)
        exact relj_block ok hu hu' ht ht' N N' hr (by omega) (by omega) L2.next
      · rw [if_neg hc3, if_neg hc3]
        exact relj_ok (relT_mk L.off (relL_nil _)) h2
    · rw [if_neg (by rw [ne.x s2 hx]; decide), if_neg (by rw [ne.y s2' hy]; decide)]
      exact relj_ok (relT_mk L.off (relL_nil _)) h2
  exact relj_ok (relT_mk L.off (relL_cons v1 (relL_cons v2 (relL_cons v3 (relL_nil _))))) h3
theorem relj_loop (ok : p.Ok) {rd rd' : St → Res T} (hu : Uns p.E (PX p.E) rd) (hu' : Uns p.F (PX p.F) rd') (ht : Takes rd) (ht' : Takes rd') (N N' : Nat)
    (hr : ∀ {s s'}, left s ≤ N → left s' ≤ N' → Sim p s s' → Rel p (RelT p.ρ) (rd s) (rd' s')) {s s' : St} (hN : left s ≤ N + 2) (hN' : left s' ≤ N' + 2) (hc : left (rest s) + 1 = left s) (hc' : left (rest s') + 1 = left s') (L : Live p s s') :
    RelJ p (RelT p.ρ) (loop p.E rd s) (loop p.F rd' s') := by
  have hB := lt_block (E := p.E) ht
  unfold loop
  refine relj_l (sim_expr L.next) (fun a1 a1' s1 s1' e1 e1' v1 h1 => ?_) (fun _ _ => by (exact un_au)) (fun _ _ => by (exact un_au)) (fun _ s1 => ?_)
  rotate_left
  · refine lt_bind' ?_ fun _ _ => lt_bind (hB _) fun _ _ => suf_same _
    split
    · exact suf_of (suf_expr _) (suf_rest s1)
    · exact suf_same _
  have l1 := suf_left (suf_expr (rest s)) e1
  have l1' := suf_left (suf_expr (rest s')) e1'
  refine relj_l (V := RelT p.ρ) ?_ (fun a2 a2' s2 s2' e2 e2' v2 h2 => ?_) (fun _ _ => by (exact un_au)) (fun _ _ => by (exact un_au)) (fun _ _ => lt_bind (hB _) fun _ _ => suf_same _)
  · rcases sim_cases h1 with L1 | hd
    rotate_left
    · exact rel_dv hd (by (exact un_au)) (by (exact un_au))
    rw [L1.acc]
    split
    · exact sim_expr L1.next
    · exact rel_ok (rel_none L) h1
  have l2 : left s2 ≤ left s1 := by
    split at e2
    · exact Nat.le_trans (suf_left (suf_expr (rest s1)) e2) (suf_rest s1).length_le
    · cases e2; exact Nat.le_refl _
  have l2' : left s2' ≤ left s1' := by
    split at e2'
    · exact Nat.le_trans (suf_left (suf_expr (rest s1')) e2') (suf_rest s1').length_le
    · cases e2'; exact Nat.le_refl _
  refine relj_bind (relj_block ok hu hu' ht ht' N N' hr (by omega) (by omega) h2) (fun a3 a3' s3 s3' e3 e3' v3 h3 => ?_) (fun _ _ => by (exact un_au)) (fun _ _ => by (exact un_au)) (fun _ _ => suf_same _)
  exact relj_ok (relT_mk L.off (relL_cons v1 (relL_cons v2 (relL_cons v3 (relL_nil _))))) h3
set_option maxRecDepth 100000 in
set_option maxHeartbeats 1000000 in
theorem relj_statement (ok : p.Ok) (ne : NoElse p) (k k' : Nat) {s s' : St} (hk : left s + 1 ≤ k) (hk' : left s' + 1 ≤ k') (h : Sim p s s') : RelJ p (RelT p.ρ) (statement p.E k s) (statement p.F k' s') := by
  rcases sim_cases h with L | hd
  rotate_left
  · exact relj_dv hd (uns_statement (px _) _ _) (uns_statement (px _) _ _) ((takes_statement k).lt s)
  obtain ⟨k, rfl⟩ : ∃ j, k = j + 1 := ⟨k - 1, by omega⟩
  obtain ⟨k', rfl⟩ : ∃ j, k' = j + 1 := ⟨k' - 1, by omega⟩
  rw [statement, statement]
  simp only [L.acc]
  by_cases hc : accepts p.E [97, 115, 115, 101, 114, 116] s = true
  · rw [if_pos hc, if_pos hc]; exact relj_claim _ L
  rw [if_neg hc, if_neg hc]
  clear hc
  by_cases hc : accepts p.E [97, 119, 97, 105, 116] s = true
  · rw [if_pos hc, if_pos hc]; exact relj_claim _ L
  rw [if_neg hc, if_neg hc]
  clear hc
  by_cases hc : accepts p.E [102, 101, 110, 99, 101] s = true
  · rw [if_pos hc, if_pos hc]; exact relj_bare _ L
  rw [if_neg hc, if_neg hc]
  clear hc
  by_cases hc : accepts p.E [115, 107, 105, 112] s = true
  · rw [if_pos hc, if_pos hc]; exact relj_bare _ L
  rw [if_neg hc, if_neg hc]
  clear hc
  by_cases hc : accepts p.E [97, 116, 111, 109, 105, 99] s = true
  · rw [if_pos hc, if_pos hc]; exact relj_atomic L
  rw [if_neg hc, if_neg hc]
  clear hc
  by_cases hc : accepts p.E [99, 97, 115] s = true
  · rw [if_pos hc, if_pos hc]; exact relj_cas L
  rw [if_neg hc, if_neg hc]
  clear hc
  by_cases hc : accepts p.E [97, 99, 113, 117, 105, 114, 101] s = true
  · rw [if_pos hc, if_pos hc]; exact relj_named _ sim_path L
  rw [if_neg hc, if_neg hc]
  clear hc
  by_cases hc : accepts p.E [102, 114, 101, 101] s = true
  · rw [if_pos hc, if_pos hc]; exact relj_named _ sim_path L
  rw [if_neg hc, if_neg hc]
  clear hc
  by_cases hc : accepts p.E [115, 112, 97, 119, 110] s = true
  · rw [if_pos hc, if_pos hc]; exact relj_named _ sim_name L
  rw [if_neg hc, if_neg hc]
  clear hc
  by_cases hc : accepts p.E [106, 111, 105, 110] s = true
  · rw [if_pos hc, if_pos hc]; exact relj_named _ sim_name L
  rw [if_neg hc, if_neg hc]
  clear hc
  by_cases hc : accepts p.E [105, 102] s = true
  · rw [if_pos hc, if_pos hc]
    have l1 := acc_left hc (by decide)
    have l1' := acc_left (E := p.F) ((L.acc _).trans hc) (by decide)
    exact relj_branch ok ne (uns_statement (px _) k) (uns_statement (px _) k') (takes_statement k) (takes_statement k') (k - 1) (k' - 1) (fun h1 h2 h => sim_statement ok k k' (by omega) (by omega) h) (by omega) (by omega) l1 l1' L
  rw [if_neg hc, if_neg hc]
  clear hc
  by_cases hc : accepts p.E [119, 104, 105, 108, 101] s = true
  · rw [if_pos hc, if_pos hc]
    have l1 := acc_left hc (by decide)
    have l1' := acc_left (E := p.F) ((L.acc _).trans hc) (by decide)
    exact relj_loop ok (uns_statement (px _) k) (uns_statement (px _) k') (takes_statement k) (takes_statement k') (k - 1) (k' - 1) (fun h1 h2 h => sim_statement ok k k' (by omega) (by omega) h) (by omega) (by omega) l1 l1' L
  rw [if_neg hc, if_neg hc]
  clear hc
  by_cases hc : accepts p.E [99, 97, 108, 108] s = true
  · rw [if_pos hc, if_pos hc]; exact relj_call L
  rw [if_neg hc, if_neg hc]
  clear hc
  by_cases hc : accepts p.E [103, 104, 111, 115, 116] s = true ∨ accepts p.E [108, 111, 99, 97, 108] s = true
  · rw [if_pos hc, if_pos hc]; exact relj_plocal L
  · rw [if_neg hc, if_neg hc]; exact relj_assignment L
theorem relj_stmt (ok : p.Ok) (ne : NoElse p) {s s' : St} (h : Sim p s s') : RelJ p (RelT p.ρ) (stmt p.E s) (stmt p.F s') := relj_statement ok ne _ _ (Nat.le_refl _) (Nat.le_refl _) h
theorem relj_record (ok : p.Ok) {s s' : St} (L : Live p s s') : RelJ p (RelT p.ρ) (record p.E s) (record p.F s') := by
  unfold record
  refine relj_l (sim_name L.next) (fun a1 a1' s1 s1' e1 e1' v1 h1 => ?_) (fun _ _ => by (exact un_au)) (fun _ _ => by (exact un_au)) (fun _ _ => lt_bind (lt_list takes_field _) fun _ _ => suf_same _)
  refine relj_bind (relj_list ok (uns_field (px _)) (uns_field (px _)) takes_field takes_field (left s1) (left s1') (fun _ _ h => sim_field h) (by omega) (by omega) h1) (fun a2 a2' s2 s2' e2 e2' v2 h2 => ?_) (fun _ _ => by (exact un_au)) (fun _ _ => by (exact un_au)) (fun _ _ => suf_same _)
  rw [v1]
  exact relj_ok (relT_mk L.off v2) h2
theorem relj_proc (ok : p.Ok) {s s' : St} (L : Live p s s') : RelJ p (RelT p.ρ) (proc p.E s) (proc p.F s') := by
  have hB := lt_block (E := p.E) (takes_stmt (E := p.E))
  have hl : ∀ (x y : Str) (l : List T) (o : Int) (s3 : St), Lt ((block p.E (stmt p.E) s3).bind fun b s4 => .ok (T.mk 57 x y 0 0 0 false (l ++ [b]) o) s4) s3 := fun x y l o s3 => lt_bind (hB s3) fun _ _ => suf_same _
  have hs : ∀ s2 : St, Suf (if accepts p.E [108, 111, 99, 107, 101, 100] s2 = true then name p.E (rest s2) else .ok [] s2) s2 := fun s2 => by
    split
    · exact suf_of (suf_name _) (suf_rest s2)
    · exact suf_same _
  unfold proc
  refine relj_l (sim_name L.next) (fun a1 a1' s1 s1' e1 e1' v1 h1 => ?_) (fun _ _ => by (exact un_au)) (fun _ _ => by (exact un_au)) (fun _ _ => lt_bind' (suf_tuple suf_param _) fun _ s2 => lt_bind' (hs s2) fun _ s3 => hl _ _ _ _ s3)
  refine relj_l (sim_tuple (un_param (px _)) (un_param (px _)) sim_param h1) (fun a2 a2' s2 s2' e2 e2' v2 h2 => ?_) (fun _ _ => by (exact un_au)) (fun _ _ => by (exact un_au)) (fun _ s2 => lt_bind' (hs s2) fun _ s3 => hl _ _ _ _ s3)
  refine relj_l (V := Eq) ?_ (fun a3 a3' s3 s3' e3 e3' v3 h3 => ?_) (fun _ _ => by (exact un_au)) (fun _ _ => by (exact un_au)) (fun _ s3 => hl _ _ _ _ s3)
  · rcases sim_cases h2 with L2 | hd
    rotate_left
    · exact rel_dv hd (by (exact un_au)) (by (exact un_au))
    rw [L2.acc]
    split
    · exact sim_name L2.next
    · exact rel_ok rfl h2
  refine relj_bind (relj_block ok (uns_stmt (px _)) (uns_stmt (px _)) takes_stmt takes_stmt (left s3) (left s3') (fun _ _ h => sim_stmt ok h) (by omega) (by omega) h3) (fun a4 a4' s4 s4' e4 e4' v4 h4 => ?_) (fun _ _ => by (exact un_au)) (fun _ _ => by (exact un_au)) (fun _ _ => suf_same _)
  rw [v1, v3]
  exact relj_ok (relT_mk L.off (relL_snoc _ _ v2 v4)) h4
theorem relj_declaration (ok : p.Ok) {s s' : St} (h : Sim p s s') : RelJ p (RelT p.ρ) (declaration p.E s) (declaration p.F s') := by
  rcases sim_cases h with L | hd
  rotate_left
  · exact relj_dv hd (uns_declaration (px _) _) (uns_declaration (px _) _) (takes_declaration.lt _)
  unfold declaration
  simp only [L.acc]
  split
  · exact relj_record ok L
  split
  · exact relj_lock L
  split
  · exact relj_claim _ L
  split
  · exact relj_claim _ L
  split
  · exact relj_frame L
  split
  · exact relj_proc ok L
  · exact relj_shared L
theorem relj_module (ok : p.Ok) {s s' : St} (L : Live p s s') : RelJ p (RelT p.ρ) (module p.E s) (module p.F s') := by
  have hl : ∀ (x y : Str) (o : Int) (s3 : St), Lt ((list p.E (declaration p.E) s3).bind fun l s4 => .ok (T.mk 60 x y 0 0 0 false l o) s4) s3 := fun x y o s3 => lt_bind (lt_list takes_declaration s3) fun _ _ => suf_same _
  unfold module
  refine relj_l (sim_name L.next) (fun a1 a1' s1 s1' e1 e1' v1 h1 => ?_) (fun _ _ => by (exact un_au)) (fun _ _ => by (exact un_au)) (fun _ _ => lt_bind' (suf_expect _ _) fun _ _ => lt_bind' (suf_name _) fun _ s3 => hl _ _ _ s3)
  refine relj_l (sim_expect _ h1) (fun a2 a2' s2 s2' e2 e2' v2 h2 => ?_) (fun _ _ => by (exact un_au)) (fun _ _ => by (exact un_au)) (fun _ _ => lt_bind' (suf_name _) fun _ s3 => hl _ _ _ s3)
  refine relj_l (sim_name h2) (fun a3 a3' s3 s3' e3 e3' v3 h3 => ?_) (fun _ _ => by (exact un_au)) (fun _ _ => by (exact un_au)) (fun _ s3 => hl _ _ _ s3)
  refine relj_bind (relj_list ok (uns_declaration (px _)) (uns_declaration (px _)) takes_declaration takes_declaration (left s3) (left s3') (fun _ _ h => sim_declaration ok h) (by omega) (by omega) h3) (fun a4 a4' s4 s4' e4 e4' v4 h4 => ?_) (fun _ _ => by (exact un_au)) (fun _ _ => by (exact un_au)) (fun _ _ => suf_same _)
  rw [v1, v3]
  exact relj_ok (relT_mk L.off v4) h4
theorem relj_unit (ok : p.Ok) {s s' : St} (h : Sim p s s') : RelJ p (RelT p.ρ) (unit p.E s) (unit p.F s') := by
  rcases sim_cases h with L | hd
  rotate_left
  · exact relj_dv hd (uns_unit (px _) _) (uns_unit (px _) _) (takes_unit.lt _)
  unfold unit
  rw [L.acc]
  split
  · exact relj_module ok L
  · exact relj_thread L
end Go.Proofs.YtbgpboiblggmiaaGreatDoor.Px
