/-
  Declarations, units, whole sources: what a parse hands back is valid; diagnostics lie in the source, in order.
-/
import Derived.Test.YtbgpboiblggmiaaGreatDoorWfc
import Derived.Test.YtbgpboiblggmiaaGreatDoorSzc
set_option linter.unusedVariables false
set_option linter.unusedSimpArgs false
namespace Go.Proofs.YtbgpboiblggmiaaGreatDoor.Px
open Lx (Tok)
variable {E : Nat}
/-- a reader of expressions keeps the diagnostics -/
def Kp {α : Type} (r : Res α) (s : St) : Prop := r.st.diags = s.diags
theorem kp_bind {α β : Type} {r : Res α} {s : St} {f : α → St → Res β} (h : Kp r s) (hf : ∀ a s1, r = .ok a s1 → Kp (f a s1) s1) : Kp (r.bind f) s := by
  cases r with
  | ok a s1 => exact Eq.trans (hf a s1 rfl) h
  | bad d s1 => exact h
theorem kp_rest (s : St) : (rest s).diags = s.diags := rfl
theorem kp_of {α : Type} {r : Res α} {s s1 : St} (h : Kp r s1) (h1 : s1.diags = s.diags) : Kp r s := Eq.trans h h1
theorem kp_same {α : Type} {s : St} (a : α) : Kp (.ok a s) s := rfl
theorem kp_wrong {α : Type} (s : St) : Kp (wrong E s : Res α) s := rfl
theorem kp_expect (x : Str) (s : St) : Kp (expect E x s) s := by
  unfold expect
  split
  · exact kp_rest s
  · exact kp_wrong s
theorem kp_name (s : St) : Kp (name E s) s := by
  unfold name
  split
  · exact kp_rest s
  · exact kp_wrong s
theorem kp_number (s : St) : Kp (number E s) s := by
  unfold number
  split
  · exact kp_rest s
  · exact kp_wrong s
theorem kp_length (s : St) : Kp (length E s) s := by
  unfold length
  split
  · exact rfl
  · exact kp_number s
theorem kp_pathGo : ∀ (k : Nat) (p : Str) (s : St), Kp (pathGo E k p s) s
  | 0, p, s => by rw [pathGo]; exact kp_same _
  | k + 1, p, s => by
    rw [pathGo]
    split
    · exact kp_of (kp_bind (kp_name _) (fun a s1 _ => kp_pathGo k _ s1)) (kp_rest s)
    · exact kp_same _
theorem kp_path (s : St) : Kp (path E s) s := by
  unfold path
  exact kp_bind (kp_name s) (fun a s1 _ => kp_pathGo 2 _ s1)
theorem kp_numeral (s : St) : Kp (numeral E s) s := by
  unfold numeral
  exact kp_bind (kp_number s) (fun a s1 _ => kp_same _)
theorem kp_pvar (s : St) : Kp (pvar E s) s := by
  unfold pvar
  exact kp_bind (kp_path s) (fun a s1 _ => kp_same _)
theorem kp_run : ∀ (k : Nat) (p : P) (s : St), Kp (run E k p s) s
  | 0, p, s => by rw [run]; exact kp_wrong s
  | k + 1, .expr, s => by
    rw [run]
    split
    · exact kp_of (kp_bind (kp_name _) fun _ _ _ => kp_bind (kp_expect _ _) fun _ _ _ => kp_bind (kp_number _) fun _ _ _ => kp_bind (kp_expect _ _) fun _ _ _ => kp_bind (kp_run k _ _) fun _ _ _ => kp_same _) (kp_rest s)
    · exact kp_run k _ s
  | k + 1, .cond, s => by
    rw [run]
    refine kp_bind (kp_run k _ _) fun _ s1 _ => ?_
    split
    · exact kp_of (kp_bind (kp_run k _ _) fun _ _ _ => kp_bind (kp_expect _ _) fun _ _ _ => kp_bind (kp_run k _ _) fun _ _ _ => kp_same _) (kp_rest s1)
    · exact kp_same _
  | k + 1, .bin least, s => by
    rw [run]
    exact kp_bind (kp_run k _ _) fun _ s1 _ => kp_run k _ s1
  | k + 1, .loop least most n, s => by
    rw [run]
    try simp only
    split
    · exact kp_same _
    · exact kp_of (kp_bind (kp_run k _ _) fun _ _ _ => kp_run k _ _) (kp_rest s)
  | k + 1, .unary, s => by
    rw [run]
    split
    · exact kp_of (kp_bind (kp_run k _ _) fun _ _ _ => kp_same _) (kp_rest s)
    · split
      · exact kp_of (kp_bind (kp_expect _ _) fun _ _ _ => kp_bind (kp_run k _ _) fun _ _ _ => kp_bind (kp_expect _ _) fun _ _ _ => kp_same _) (kp_rest s)
      · split
        · exact kp_of (kp_bind (kp_run k _ _) fun _ _ _ => kp_bind (kp_expect _ _) fun _ _ _ => kp_same _) (kp_rest s)
        · split
          · exact kp_numeral s
          · exact kp_run k _ s
  | k + 1, .ref, s => by
    rw [run]
    refine kp_bind (kp_pvar _) fun _ s1 _ => ?_
    split
    · exact kp_of (kp_bind (kp_run k _ _) fun _ _ _ => kp_bind (kp_expect _ _) fun _ _ _ => kp_same _) (kp_rest s1)
    · exact kp_same _
theorem kp_expr (s : St) : Kp (expr E s) s := kp_run _ _ s
theorem kp_refr (s : St) : Kp (refr E s) s := kp_run _ _ s
theorem kp_whole (s : St) : Kp (whole E s) s := by
  unfold whole
  refine kp_bind (kp_expr s) (fun n s1 _ => ?_)
  split
  · exact kp_same _
  · exact kp_wrong _
end Go.Proofs.YtbgpboiblggmiaaGreatDoor.Px
namespace Go.Proofs.YtbgpboiblggmiaaGreatDoor
open Go.RowKit
open Px (St T D Res left)
variable {E : Nat}

theorem wr_field (s : St) : Wr FldOk (Px.field E s) s := by
  unfold Px.field
  refine wr_bind (wr_typed s) (fun p s1 _ _ hp => wr_end ?_ s1)
  exact ⟨vt_mk ⟨lab1 hp.1, lab0, hp.2, zz, zz, .inr rfl⟩ ⟨0, fun _ => rfl, trivial⟩ vl_nil, rfl⟩
theorem wr_param (s : St) : Wr ParOk (Px.param E s) s := by
  unfold Px.param
  refine wr_bind (wr_typed s) (fun p s1 _ _ hp => wr_ok ?_)
  exact ⟨vt_mk ⟨lab1 hp.1, lab0, hp.2, zz, zz, .inr rfl⟩ ⟨0, fun _ => rfl, trivial⟩ vl_nil, rfl⟩
theorem wr_record (s : St) : Wr DecOk (Px.record E s) s := by
  unfold Px.record
  refine wr_rest (wr_bind (wr_name _) (fun x s1 _ _ hx => wr_bind (wr_list wr_field Px.takes_field.suf s1) (fun l s2 _ _ hl => wr_ok ?_)))
  exact ⟨vt_mk ⟨lab1 hx, lab0, zz, zz, zz, .inr rfl⟩ (kv_all rfl rfl rfl (fun t ht => yes_isField (hl t ht).2)) (vl_all (fun t ht => (hl t ht).1)), rfl⟩
theorem num0 : NumOk 0 := by unfold NumOk; decide
theorem shared_mk {x y : Px.Str} {n len i o : Int} {g : Bool} (hx : NameOk x) (hq : (y = [] ∧ NumOk n) ∨ (NameOk y ∧ n = 0)) (hl : NumOk len) (hi : NumOk i) : DecOk (.mk 50 x y n len i g [] o) := by
  refine ⟨?_, rfl⟩
  rcases hq with ⟨rfl, hn⟩ | ⟨hy, rfl⟩
  · exact vt_mk ⟨lab1 hx, lab0, hn, hl, hi, .inl rfl⟩ ⟨0, fun _ => rfl, trivial⟩ vl_nil
  · cases y with
    | nil => have := hy.len; simp at this
    | cons c r => exact vt_mk ⟨lab1 hx, lab1 hy, zz, hl, hi, .inl rfl⟩ ⟨0, fun _ => rfl, trivial⟩ vl_nil
theorem wr_shared (s : St) : Wr DecOk (Px.shared E s) s := by
  unfold Px.shared
  refine wr_acc (x := [103, 104, 111, 115, 116]) (wr_bind (wr_expect _ _) (fun _ s1 _ _ _ => wr_bind (wr_name s1) (fun x s2 _ _ hx => ?_)))
  refine wr_bind (Φ := NumOk) (wr_if (fun _ => wr_rest (wr_bind (wr_length _) (fun m s3 _ _ hm => wr_end hm s3))) (fun _ => wr_ok num0)) (fun len s5 _ _ hlen => wr_bind (wr_expect _ s5) (fun _ s6 _ _ _ => ?_))
  refine wr_bind (Φ := fun q => (q.1 = [] ∧ NumOk q.2) ∨ (NameOk q.1 ∧ q.2 = 0)) (wr_if (fun _ => wr_bind (wr_number s6) (fun m s7 _ _ hm => wr_ok (.inl ⟨rfl, hm⟩))) (fun _ => wr_bind (wr_name s6) (fun y s7 _ _ hy => wr_ok (.inr ⟨hy, rfl⟩)))) (fun q s8 _ _ hq => ?_)
  refine wr_bind (Φ := NumOk) (wr_if (fun _ => wr_rest (wr_number _)) (fun _ => wr_ok num0)) (fun i s9 _ _ hi => wr_end (shared_mk hx hq hlen hi) s9)
theorem wr_lock (s : St) : Wr DecOk (Px.lock E s) s := by
  unfold Px.lock
  refine wr_rest (wr_bind (wr_name _) (fun x s1 _ _ hx => wr_bind (wr_expect _ s1) (fun _ s2 _ _ _ => wr_bind (wr_expr s2) (fun e s3 _ _ he => wr_end ?_ s3))))
  exact ⟨vt_mk ⟨lab1 hx, lab0, zz, zz, zz, .inr rfl⟩ ⟨0, fun _ => rfl, ⟨yes_isExpr he.2, trivial⟩⟩ (vl_cons he.1 vl_nil), rfl⟩
theorem wr_frame (s : St) : Wr DecOk (Px.frame E s) s := by
  unfold Px.frame
  refine wr_rest (wr_bind (wr_separated wr_pvar _) (fun l s1 _ _ hl => wr_end ?_ s1))
  cases l with
  | nil => exact absurd rfl hl.2
  | cons t r =>
    refine ⟨vt_mk ⟨lab0, lab0, zz, zz, zz, .inr rfl⟩ (kv_more r.length (fun h => by cases h) rfl ⟨yes_isVariable (hl.1 t (by simp)).2, ?_⟩) (vl_all (fun u hu => (hl.1 u hu).1)), rfl⟩
    exact props_rep r (fun u hu => yes_isVariable (hl.1 u (by simp [hu])).2)
theorem proc_mk {x y : Px.Str} {l : List T} {b : T} {o : Int} (hx : NameOk x) (hy : y = [] ∨ NameOk y) (hl : ∀ t ∈ l, ParOk t) (hb : BlkOk b) : DecOk (.mk 57 x y 0 0 0 false (l ++ [b]) o) := by
  have hv : VL (l ++ [b]) := vl_app (vl_all (fun t ht => (hl t ht).1)) (vl_cons hb.1 vl_nil)
  have hp : PropsYes (rep [122] l.length ++ [118]) (l ++ [b]) := propsYes_app (props_rep l (fun t ht => yes_isParam (hl t ht).2)) ⟨yes_isBlock hb.2, trivial⟩
  refine ⟨?_, rfl⟩
  rcases hy with rfl | hy
  · exact vt_mk ⟨lab1 hx, lab0, zz, zz, zz, .inr rfl⟩ ⟨l.length, fun h => (by cases h), hp⟩ hv
  · cases y with
    | nil => have := hy.len; simp at this
    | cons c r => exact vt_mk ⟨lab1 hx, lab1 hy, zz, zz, zz, .inr rfl⟩ ⟨l.length, fun h => (by cases h), hp⟩ hv
theorem wr_proc (s : St) : Wr DecOk (Px.proc E s) s := by
  unfold Px.proc
  refine wr_rest (wr_bind (wr_name _) (fun x s1 _ _ hx => wr_bind (wr_tuple wr_param s1) (fun l s2 _ _ hl => ?_)))
  refine wr_bind (Φ := fun y => y = [] ∨ NameOk y) (wr_if (fun _ => wr_rest (wr_mono (wr_name _) (fun _ h => .inr h))) (fun _ => wr_ok (.inl rfl))) (fun y s3 _ _ hy => wr_bind (wr_block wr_stmt Px.takes_stmt.suf s3) (fun b s4 _ _ hb => wr_ok (proc_mk hx hy hl hb)))
theorem claim54 (e : T) (o : Int) (h : ExprOk e) : DecOk (T.of 54 o [e]) := ⟨vt_mk ⟨lab0, lab0, zz, zz, zz, .inr rfl⟩ ⟨0, fun _ => rfl, ⟨yes_isExpr h.2, trivial⟩⟩ (vl_cons h.1 vl_nil), rfl⟩
theorem claim55 (e : T) (o : Int) (h : ExprOk e) : DecOk (T.of 55 o [e]) := ⟨vt_mk ⟨lab0, lab0, zz, zz, zz, .inr rfl⟩ ⟨0, fun _ => rfl, ⟨yes_isExpr h.2, trivial⟩⟩ (vl_cons h.1 vl_nil), rfl⟩
theorem wr_declaration (s : St) : Wr DecOk (Px.declaration E s) s := by
  unfold Px.declaration
  refine wr_if (fun _ => wr_record s) (fun _ => wr_if (fun _ => wr_lock s) (fun _ => wr_if (fun _ => wr_claim claim54 s) (fun _ => wr_if (fun _ => wr_claim claim55 s) (fun _ => ?_))))
  exact wr_if (fun _ => wr_frame s) (fun _ => wr_if (fun _ => wr_proc s) (fun _ => wr_shared s))
theorem wr_module (s : St) : Wr UniOk (Px.module E s) s := by
  unfold Px.module
  refine wr_rest (wr_bind (wr_name _) (fun x s1 _ _ hx => wr_bind (wr_expect _ s1) (fun _ s2 _ _ _ => wr_bind (wr_name s2) (fun y s3 _ _ hy => wr_bind (wr_list wr_declaration Px.takes_declaration.suf s3) (fun l s4 _ _ hl => wr_ok ?_)))))
  exact ⟨vt_mk ⟨lab1 hx, lab1 hy, zz, zz, zz, .inr rfl⟩ (kv_all rfl rfl rfl (fun t ht => yes_isDeclaration (hl t ht).2)) (vl_all (fun t ht => (hl t ht).1)), rfl⟩
theorem wr_thread (s : St) : Wr UniOk (Px.thread E s) s := by
  unfold Px.thread
  refine wr_acc (x := [97, 115, 108, 101, 101, 112]) (wr_bind (wr_expect _ _) (fun _ s1 _ _ _ => wr_bind (wr_name s1) (fun x s2 _ _ hx => wr_bind (wr_expect _ s2) (fun _ s3 _ _ _ => wr_bind (wr_path s3) (fun p s4 _ _ hp => wr_bind (wr_tuple wr_numeral s4) (fun l s5 _ _ hl => wr_end ?_ s5))))))
  refine ⟨vt_mk ⟨lab1 hx, lab2 hp, ?_, zz, zz, .inr rfl⟩ (kv_all rfl rfl rfl (fun t ht => yes_isNumber (hl t ht).2)) (vl_all (fun t ht => (hl t ht).1)), rfl⟩
  show (0 : Int) ≤ (if _ then 1 else 0) ∧ (if _ then (1 : Int) else 0) ≤ 1
  split
  · exact one01
  · exact zero01
theorem wr_unit (s : St) : Wr UniOk (Px.unit E s) s := by
  unfold Px.unit
  exact wr_if (fun _ => wr_module s) (fun _ => wr_thread s)
theorem source_ok {l : List T} (h : ∀ t ∈ l, UniOk t) : VT (Px.source l) := vt_mk ⟨lab0, lab0, zz, zz, zz, .inr rfl⟩ (kv_all rfl rfl rfl (fun t ht => yes_isUnit (h t ht).2)) (vl_all (fun t ht => (h t ht).1))
theorem tv_start {l : List UInt8} {ts : List Lx.Tok} {p : Nat} (h : Lx.lex l = (ts, 0, p)) : TV (Px.start ts) := ⟨lex_tokV h, Lx.lex_len_of h⟩

/-- what Parse hands back is well formed -/
theorem parse_wf {l : List UInt8} {Y : T} {e : List D} (hY : Px.parse l = (Y, e)) : WfT Y ∧ Y.kind = 62 ∧ (e = [] → Px.fits Y = true) := by
  have hsz := Px.parse_size (src := l)
  have hf0 : Px.fits (Px.source []) = true := by decide
  have h0 : VT (Px.source []) := source_ok (fun t ht => by cases ht)
  suffices h : VT Y ∧ Y.kind = 62 ∧ (e = [] → Px.fits Y = true) from ⟨wf_of _ Y (Nat.le_refl _) (by rw [hY] at hsz; exact hsz) h.1, h.2⟩
  obtain ⟨⟨ts, k, p⟩, hlex⟩ : ∃ r, Lx.lex l = r := ⟨_, rfl⟩
  by_cases hk : k = 0
  · subst hk
    have hall := all_units (rd := Px.unit l.length) wr_unit Px.takes_unit.suf (ts.length + 1) [] (Px.start ts) (tv_start hlex) (fun t ht => by cases ht)
    rw [Px.parse_units hlex] at hY
    split at hY
    · cases hY
      exact ⟨h0, rfl, fun h => by cases h⟩
    · rename_i hc
      cases hY
      refine ⟨source_ok hall, rfl, fun h => ?_⟩
      cases hf : Px.fits (Px.source (Px.units l.length ts).1) with
      | true => rfl
      | false => exact absurd ⟨h, hf⟩ hc
  · unfold Px.parse at hY
    rw [hlex] at hY
    have h2 : (Px.source [], [(⟨(k : Int), p⟩ : D)]) = (Y, e) := (if_pos hk : _ = _).symm.trans hY
    cases h2
    exact ⟨h0, rfl, fun h => by cases h⟩
/-- the diagnostics of a parse -/
theorem parse_ds {l : List UInt8} {Y : T} {e : List D} (hY : Px.parse l = (Y, e)) : e.length ≤ 20 ∧ e.Pairwise (fun a b => a.off < b.off) ∧ ∀ d ∈ e, d.err ≠ 0 ∧ 0 ≤ d.off ∧ d.off ≤ l.length := by
  obtain ⟨⟨ts, k, p⟩, hlex⟩ : ∃ r, Lx.lex l = r := ⟨_, rfl⟩
  by_cases hk : k = 0
  · subst hk
    obtain ⟨a1, a2⟩ := Lx.lex_off hlex
    have hg := Px.units_good (E := l.length) a1 a2
    rw [Px.parse_units hlex] at hY
    split at hY
    · cases hY
      refine ⟨by simp, List.pairwise_singleton _ _, fun d hd => ?_⟩
      rw [List.mem_singleton.1 hd]
      exact ⟨by decide, by decide, Int.natCast_nonneg _⟩
    · cases hY
      refine ⟨hg.num, hg.diags, fun d hd => ?_⟩
      have h1 := hg.le d hd
      have h2 := Px.off_le hg
      have h3 := hg.err d hd
      omega
  · have hp := Lx.lex_pos hlex
    unfold Px.parse at hY
    rw [hlex] at hY
    have h2 : (Px.source [], [(⟨(k : Int), p⟩ : D)]) = (Y, e) := (if_pos hk : _ = _).symm.trans hY
    cases h2
    refine ⟨by simp, List.pairwise_singleton _ _, fun d hd => ?_⟩
    rw [List.mem_singleton.1 hd]
    simp only
    omega
theorem wr_whole (s : St) : Wr ExprOk (Px.whole E s) s := by
  unfold Px.whole
  refine wr_bind (wr_expr s) (fun n s1 _ _ hn => ?_)
  split
  · exact wr_ok hn
  · exact wr_wrong
/-- what ParseExpr hands back: a valid expression, or a zero tree and one diagnostic -/
theorem parseExpr_wf {l : List UInt8} {Y : T} {e : List D} (hY : Px.parseExpr l = (Y, e)) : (e = [] ∧ ValidOk Y ∧ 1 ≤ Y.kind ∧ Y.kind ≤ 8) ∨ (∃ d, e = [d] ∧ Y = T.zero ∧ d.err ≠ 0 ∧ 0 ≤ d.off ∧ d.off ≤ l.length) := by
  obtain ⟨⟨ts, k, p⟩, hlex⟩ : ∃ r, Lx.lex l = r := ⟨_, rfl⟩
  by_cases hk : k = 0
  · subst hk
    obtain ⟨a1, a2⟩ := Lx.lex_off hlex
    have hg := Px.good_start (E := l.length) a1 a2
    have hun := Px.un_whole (Px.pinc l.length) (Px.start ts)
    have hwr := wr_whole (E := l.length) (Px.start ts) (tv_start hlex)
    have hkp := Px.kp_whole (E := l.length) (Px.start ts)
    unfold Px.parseExpr at hY
    rw [hlex] at hY
    unfold Px.item at hY
    simp only [ne_eq, not_true_eq_false, if_false] at hY
    cases hw : Px.whole l.length (Px.start ts) with
    | ok t s1 =>
      rw [hw] at hY
      obtain ⟨h1, h2⟩ := hwr t s1 hw
      simp only at hY
      split at hY
      · rename_i hf
        cases hY
        have hke := h1.2
        unfold Pr.isExpr at hke
        simp only [Bool.and_eq_true, decide_eq_true_eq] at hke
        refine .inl ⟨rfl, ⟨.inr hke, hf, wf_of _ Y (Nat.le_refl _) ?_ h1.1⟩, hke⟩
        unfold Px.fits at hf
        simp only [Bool.and_eq_true, decide_eq_true_eq] at hf
        omega
      · cases hY
        exact .inr ⟨_, rfl, rfl, by decide, by decide, Int.natCast_nonneg _⟩
    | bad d s1 =>
      rw [hw] at hY hun hkp
      have hd0 : s1.diags = [] := hkp
      have hgs : Px.Good l.length s1 := hun.1 hg
      have hb := hun.2 d s1 rfl
      simp only at hY
      rw [hd0] at hY
      have hr : Px.report d [] = [d] := rfl
      rw [hr] at hY
      cases hY
      obtain ⟨b1, b2, _⟩ := hb
      have h2 := Px.off_le hgs
      exact .inr ⟨d, rfl, rfl, by omega, by omega, by omega⟩
  · have hp := Lx.lex_pos hlex
    unfold Px.parseExpr at hY
    rw [hlex] at hY
    have h2 : (T.zero, [(⟨(k : Int), p⟩ : D)]) = (Y, e) := (if_pos hk : _ = _).symm.trans hY
    cases h2
    exact .inr ⟨_, rfl, rfl, by simp only; omega, by simp only; omega, by simp only; omega⟩
end Go.Proofs.YtbgpboiblggmiaaGreatDoor
