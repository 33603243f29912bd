/-
  The parser reads an expression's pieces as that expression, offsets aside.
-/
import Derived.Test.YtbgpboiblggmiaaGreatDoorQPeb
set_option linter.unusedVariables false
set_option linter.unusedSimpArgs false
namespace Go.Proofs.YtbgpboiblggmiaaGreatDoor
open Go.RowKit
open Px (St T D Res)
variable {E : Nat}

abbrev Ks := List (Nat × List UInt8)
theorem key_cons {s : St} {k : Nat} {x : List UInt8} {r : Ks} (h : Lx.keys s.toks = (k, x) :: r) : Px.text E s = x ∧ Px.kindOf E s = k ∧ Lx.keys (Px.rest s).toks = r := by
  unfold Px.text Px.kindOf Px.peek Px.rest
  cases hs : s.toks with
  | nil => rw [hs] at h; cases h
  | cons t q =>
    rw [hs] at h
    unfold Lx.keys at h ⊢
    simp only [List.map_cons, List.cons.injEq, Prod.mk.injEq] at h
    exact ⟨h.1.2, h.1.1, h.2⟩
theorem key_nil {s : St} (h : Lx.keys s.toks = []) : Px.text E s = [] ∧ s.toks = [] := by
  unfold Px.text Px.peek
  cases hs : s.toks with
  | nil => exact ⟨rfl, rfl⟩
  | cons t q => rw [hs] at h; cases h
theorem acc_eq {s : St} {x y : List UInt8} (h : Px.text E s = y) : Px.accepts E x s = (y == x) := by unfold Px.accepts; rw [h]
theorem exp_ok {s : St} {k : Nat} {x : List UInt8} {r : Ks} (h : Lx.keys s.toks = (k, x) :: r) : Px.expect E x s = .ok () (Px.rest s) := by
  unfold Px.expect
  rw [acc_eq (key_cons h).1, if_pos (beq_self_eq_true x)]
theorem name_ok {s : St} {x : List UInt8} {r : Ks} (h : Lx.keys s.toks = (1, x) :: r) (hx : NameOk x) : Px.name E s = .ok x (Px.rest s) := by
  obtain ⟨h1, h2, _⟩ := key_cons (E := E) h
  unfold Px.name
  rw [h1, if_pos ⟨h2, hx.key⟩]
theorem number_ok {s : St} {x : List UInt8} {r : Ks} (h : Lx.keys s.toks = (2, x) :: r) : Px.number E s = .ok (Px.numVal x) (Px.rest s) := by
  obtain ⟨h1, h2, _⟩ := key_cons (E := E) h
  unfold Px.number
  rw [h1, if_pos h2]
/-- what may stand behind an expression -/
def Fo (bs : Ks) : Prop := ∀ k x r, bs = (k, x) :: r → Px.level x = 0 ∧ x ≠ [63] ∧ x ≠ [91] ∧ x ≠ [46]
theorem fo_at {s : St} {bs : Ks} (h : Lx.keys s.toks = bs) (hf : Fo bs) : Px.level (Px.text E s) = 0 ∧ Px.accepts E [63] s = false ∧ Px.accepts E [91] s = false ∧ Px.accepts E [46] s = false := by
  cases bs with
  | nil =>
    obtain ⟨h1, _⟩ := key_nil (E := E) h
    rw [acc_eq h1, acc_eq h1, acc_eq h1, h1]
    exact ⟨rfl, rfl, rfl, rfl⟩
  | cons p r =>
    obtain ⟨k, x⟩ := p
    obtain ⟨h1, _, _⟩ := key_cons (E := E) h
    obtain ⟨f1, f2, f3, f4⟩ := hf k x r rfl
    rw [acc_eq h1, acc_eq h1, acc_eq h1, h1]
    exact ⟨f1, beq_eq_false_iff_ne.2 f2, beq_eq_false_iff_ne.2 f3, beq_eq_false_iff_ne.2 f4⟩
theorem fo_close (r : Ks) : Fo ((3, [41]) :: r) := fun k x q h => by cases h; exact ⟨rfl, by decide, by decide, by decide⟩
theorem fo_right (r : Ks) : Fo ((3, [93]) :: r) := fun k x q h => by cases h; exact ⟨rfl, by decide, by decide, by decide⟩
theorem fo_nil : Fo [] := fun k x q h => by cases h
theorem kx_app (l m : List Pc) : kx (l ++ m) = kx l ++ kx m := List.map_append
theorem kx_par (sp : Bool) (p : List Pc) : kx (par sp p) = (3, [40]) :: (kx p ++ [(3, [41])]) := by
  unfold par
  show (3, [40]) :: kx (p ++ [(false, 3, [41])]) = _
  rw [kx_app]
  rfl

def tailJ : List Px.Str → List UInt8
  | [] => []
  | b :: r => [46] ++ b ++ tailJ r
theorem join_tail : ∀ (a : Px.Str) (r : List Px.Str), joinN a r = a ++ tailJ r
  | a, [] => by rw [joinN, tailJ, List.append_nil]
  | a, b :: r => by rw [joinN, tailJ, join_tail b r]; simp
def tailK : List Px.Str → Ks
  | [] => []
  | b :: r => (3, [46]) :: (1, b) :: tailK r
theorem kx_names : ∀ (a : Px.Str) (r : List Px.Str), kx (pthN (a :: r)) = (1, a) :: tailK r
  | a, [] => rfl
  | a, b :: r => by
    have := kx_names b r
    show (1, a) :: (3, [46]) :: kx (pthN (b :: r)) = _
    rw [this]
    rfl
theorem pathGo_run : ∀ (r : List Px.Str) (k : Nat) (p : Px.Str) (s : St) (bs : Ks), r.length ≤ k → (∀ n ∈ r, NameOk n) → Lx.keys s.toks = tailK r ++ bs → (∀ s' : St, Lx.keys s'.toks = bs → Px.accepts E [46] s' = false) → ∃ s', Px.pathGo E k p s = .ok (p ++ tailJ r) s' ∧ Lx.keys s'.toks = bs
  | [], k, p, s, bs, _, _, h, hb => by
    rw [tailJ, List.append_nil]
    refine ⟨s, ?_, h⟩
    cases k with
    | zero => rw [Px.pathGo]
    | succ k => rw [Px.pathGo, hb s h, if_neg Bool.false_ne_true]
  | b :: r, 0, p, s, bs, hl, _, _, _ => by simp at hl
  | b :: r, k + 1, p, s, bs, hl, hn, h, hb => by
    have h0 : Lx.keys s.toks = (3, [46]) :: ((1, b) :: (tailK r ++ bs)) := h
    obtain ⟨h1, _, h3⟩ := key_cons (E := E) h0
    obtain ⟨_, _, h4⟩ := key_cons (E := E) h3
    obtain ⟨s', e1, e2⟩ := pathGo_run r k (p ++ ([46] ++ b)) (Px.rest (Px.rest s)) bs (by simp at hl; omega) (fun n hn' => hn n (by simp [hn'])) h4 hb
    refine ⟨s', ?_, e2⟩
    rw [Px.pathGo, acc_eq h1, if_pos (by rfl), name_ok h3 (hn b (by simp))]
    show Px.pathGo E k (p ++ ([46] ++ b)) (Px.rest (Px.rest s)) = _
    rw [e1, tailJ]
    simp
theorem path_run {x : Px.Str} (hx : PathV x) (s : St) (bs : Ks) (h : Lx.keys s.toks = kx (pth x) ++ bs) (hb : ∀ s' : St, Lx.keys s'.toks = bs → Px.accepts E [46] s' = false) :
    ∃ s', Px.path E s = .ok x s' ∧ Lx.keys s'.toks = bs := by
  obtain ⟨a, r, rfl, hn, hl⟩ := hx
  rw [path_pieces a r hn, kx_names] at h
  obtain ⟨_, _, h3⟩ := key_cons (E := E) h
  obtain ⟨s', e1, e2⟩ := pathGo_run (E := E) r 2 a (Px.rest s) bs hl (fun n hn' => hn n (by simp [hn'])) h3 hb
  refine ⟨s', ?_, e2⟩
  unfold Px.path
  rw [name_ok h (hn a (by simp))]
  show Px.pathGo E 2 a (Px.rest s) = _
  rw [e1, join_tail]

/-- from a unary expression to an expression -/
theorem wrap_bin {k : Nat} {s s1 : St} {t : T} {least : Int} (hl : 1 ≤ least) (h : Px.run E (k + 1) .unary s = .ok t s1) (h0 : Px.level (Px.text E s1) = 0) : Px.run E (k + 2) (.bin least) s = .ok t s1 := by
  rw [Px.run, h]
  show Px.run E (k + 1) (.loop least 9 t) s1 = _
  rw [Px.run]
  try simp only
  rw [if_pos (.inl (by omega))]
theorem wrap_cond {k : Nat} {s s1 : St} {t : T} (h : Px.run E (k + 1) .unary s = .ok t s1) (h0 : Px.level (Px.text E s1) = 0) (h1 : Px.accepts E [63] s1 = false) : Px.run E (k + 3) .cond s = .ok t s1 := by
  rw [Px.run, wrap_bin (Int.le_refl 1) h h0]
  show (if Px.accepts E [63] s1 = true then _ else _) = _
  rw [h1, if_neg Bool.false_ne_true]
theorem expr_cond {k : Nat} {s : St} (ha : Px.accepts E [97, 108, 108] s = false) (hs : Px.accepts E [115, 111, 109, 101] s = false) : Px.run E (k + 1) .expr s = Px.run E k .cond s := by
  rw [Px.run, if_neg (by rw [ha, hs]; simp)]
theorem wrap {k : Nat} {s s1 : St} {t : T} {bs : Ks} (ha : Px.accepts E [97, 108, 108] s = false) (hs : Px.accepts E [115, 111, 109, 101] s = false) (h : Px.run E (k + 1) .unary s = .ok t s1) (hb : Lx.keys s1.toks = bs) (hf : Fo bs) : Px.run E (k + 4) .expr s = .ok t s1 := by
  obtain ⟨f1, f2, _⟩ := fo_at (E := E) hb hf
  rw [expr_cond ha hs, wrap_cond h f1 f2]

/-- an expression's pieces are read as the expression -/
def Reads (E : Nat) (t : T) : Prop := ∀ (k : Nat) (s : St) (bs : Ks), 6 * (kx (pcs t)).length + 6 ≤ k → Lx.keys s.toks = kx (pcs t) ++ bs → Fo bs → ∃ t' s', Px.run E k .expr s = .ok t' s' ∧ Lx.keys s'.toks = bs ∧ stripT t' = stripT t
def ReadsR (E : Nat) (t : T) : Prop := ∀ (k : Nat) (s : St) (bs : Ks), 6 * (kx (pcs t)).length + 2 ≤ k → Lx.keys s.toks = kx (pcs t) ++ bs → Fo bs → ∃ t' s', Px.run E k .ref s = .ok t' s' ∧ Lx.keys s'.toks = bs ∧ stripT t' = stripT t
theorem unary_par {e : T} (h : Reads E e) (sp : Bool) (k : Nat) (s : St) (bs : Ks) (hk : 6 * (kx (pcs e)).length + 7 ≤ k) (hs : Lx.keys s.toks = kx (par sp (pcs e)) ++ bs) : ∃ t' s', Px.run E k .unary s = .ok t' s' ∧ Lx.keys s'.toks = bs ∧ stripT t' = stripT e := by
  obtain ⟨j, rfl⟩ : ∃ j, k = j + 1 := ⟨k - 1, by omega⟩
  rw [kx_par, List.cons_append, List.append_assoc, List.cons_append, List.nil_append] at hs
  obtain ⟨h1, _, h3⟩ := key_cons (E := E) hs
  obtain ⟨t', s', e1, e2, e3⟩ := h j (Px.rest s) _ (by omega) h3 (fo_close bs)
  refine ⟨t', Px.rest s', ?_, (key_cons (E := E) e2).2.2, e3⟩
  rw [Px.run, acc_eq h1, acc_eq h1, acc_eq h1, if_neg (by decide), if_neg (by decide), if_pos (by decide), e1]
  show (Px.expect E [41] s').bind _ = _
  rw [exp_ok e2]
  rfl
theorem par_text {e : T} {sp : Bool} {s : St} {bs : Ks} (hs : Lx.keys s.toks = kx (par sp (pcs e)) ++ bs) : Px.text E s = [40] := by
  rw [kx_par] at hs
  exact (key_cons (E := E) hs).1
theorem cond_par {e : T} (h : Reads E e) (sp : Bool) (k : Nat) (s : St) (bs : Ks) (hk : 6 * (kx (pcs e)).length + 9 ≤ k) (hs : Lx.keys s.toks = kx (par sp (pcs e)) ++ bs) (hb : ∀ s' : St, Lx.keys s'.toks = bs → Px.level (Px.text E s') = 0 ∧ Px.accepts E [63] s' = false) : ∃ t' s', Px.run E k .cond s = .ok t' s' ∧ Lx.keys s'.toks = bs ∧ stripT t' = stripT e := by
  obtain ⟨j, rfl⟩ : ∃ j, k = j + 3 := ⟨k - 3, by omega⟩
  obtain ⟨t', s', e1, e2, e3⟩ := unary_par h sp (j + 1) s bs (by omega) hs
  obtain ⟨b1, b2⟩ := hb s' e2
  exact ⟨t', s', wrap_cond e1 b1 b2, e2, e3⟩
theorem expr_par {e : T} (h : Reads E e) (sp : Bool) (k : Nat) (s : St) (bs : Ks) (hk : 6 * (kx (pcs e)).length + 10 ≤ k) (hs : Lx.keys s.toks = kx (par sp (pcs e)) ++ bs) (hf : Fo bs) : ∃ t' s', Px.run E k .expr s = .ok t' s' ∧ Lx.keys s'.toks = bs ∧ stripT t' = stripT e := by
  obtain ⟨j, rfl⟩ : ∃ j, k = j + 4 := ⟨k - 4, by omega⟩
  obtain ⟨t', s', e1, e2, e3⟩ := unary_par h sp (j + 1) s bs (by omega) hs
  have ht := par_text (E := E) hs
  exact ⟨t', s', wrap (by rw [acc_eq ht]; decide) (by rw [acc_eq ht]; decide) e1 e2 hf, e2, e3⟩
theorem name_nokey {x y : Px.Str} (h : NameOk x) (hy : Px.isKey y = true) : (x == y) = false := beq_eq_false_iff_ne.2 (fun e => by have := h.key; rw [e, hy] at this; cases this)
theorem name_nosym {x : Px.Str} {c : UInt8} {r : Px.Str} (h : NameOk x) (hc : Lx.letterU c = false) : (x == c :: r) = false := beq_eq_false_iff_ne.2 (fun e => by have := h.first c r e; rw [hc] at this; cases this)
theorem dig_no {n : Nat} {c : UInt8} {r : List UInt8} (hc : Lx.digitU c = false) : (dig n == c :: r) = false := beq_eq_false_iff_ne.2 (fun e => by
  obtain ⟨d1, _⟩ := dig_all n n (Nat.lt_pow_self (by decide))
  have := d1 c (by rw [e]; simp)
  rw [hc] at this
  cases this)
theorem num_val {n : Int} (h : NumOk n) : Px.numVal (dig n.toNat) = n := by
  obtain ⟨_, _, _, d, _⟩ := dig_all n.toNat n.toNat (Nat.lt_pow_self (by decide))
  unfold NumOk at h
  rw [d]
  omega
theorem lor_pos' {x : Px.Str} (h : 0 < Px.level x) : 1 ≤ Px.leastOnTheRight (Px.level x) := by unfold Px.leastOnTheRight; split <;> omega
theorem level_nine (x : Px.Str) : Px.level x ≤ 9 := by unfold Px.level; repeat' split; all_goals omega

theorem reads_ev : ∀ n : Nat, (∀ t, Px.size t ≤ n → EV t → Reads E t) ∧ (∀ t, Px.size t ≤ n → RV t → ReadsR E t)
  | 0 => ⟨fun t h => by cases t; rw [Px.size] at h; omega, fun t h => by cases t; rw [Px.size] at h; omega⟩
  | n + 1 => by
    obtain ⟨ih1, ih2⟩ := reads_ev n
    have hr : ∀ t, Px.size t ≤ n + 1 → RV t → ReadsR E t := by
      intro t h hv k s bs hk hs hf
      obtain ⟨j, rfl⟩ : ∃ j, k = j + 1 := ⟨k - 1, by omega⟩
      cases hv with
      | ref x o hx =>
        have hs' : Lx.keys s.toks = kx (pth x) ++ bs := hs
        obtain ⟨s', e1, e2⟩ := path_run (E := E) hx s bs hs' (fun s' h' => (fo_at (E := E) h' hf).2.2.2)
        refine ⟨T.named 2 (Px.offOf E s) x [], s', ?_, e2, rfl⟩
        rw [Px.run]
        unfold Px.pvar
        rw [e1]
        show (if Px.accepts E [91] s' = true then _ else _) = _
        rw [(fo_at (E := E) e2 hf).2.2.1, if_neg Bool.false_ne_true]
      | idx x o e hx he =>
        have hse : Px.size e ≤ n := by rw [Px.size, Px.sizes, Px.sizes] at h; omega
        have hkx : kx (pcs (.mk 2 x [] 0 0 0 false [e] o)) = kx (pth x) ++ (3, [91]) :: (kx (pcs e) ++ [(3, [93])]) := by
          show kx (pth x ++ (false, 3, [91]) :: (pcs e ++ [(false, 3, [93])])) = _
          rw [kx_app]
          show _ ++ (3, [91]) :: kx (pcs e ++ [(false, 3, [93])]) = _
          rw [kx_app]
          rfl
        rw [hkx] at hk hs
        simp only [List.length_append, List.length_cons, List.length_nil] at hk
        simp only [List.append_assoc, List.cons_append, List.nil_append] at hs
        obtain ⟨s', e1, e2⟩ := path_run (E := E) hx s _ hs (fun s' h' => by rw [acc_eq (key_cons (E := E) h').1]; decide)
        obtain ⟨f1, _, f3⟩ := key_cons (E := E) e2
        obtain ⟨t', s2, g1, g2, g3⟩ := ih1 e hse he j (Px.rest s') _ (by omega) f3 (fo_right bs)
        refine ⟨T.named 2 (Px.offOf E s) x [t'], Px.rest s2, ?_, (key_cons (E := E) g2).2.2, ?_⟩
        · rw [Px.run]
          unfold Px.pvar
          rw [e1]
          show (if Px.accepts E [91] s' = true then _ else _) = _
          rw [acc_eq f1, if_pos (by decide), g1]
          show (Px.expect E [93] s2).bind _ = _
          rw [exp_ok g2]
          rfl
        · show stripT (T.named 2 _ x [t']) = _
          simp [T.named, stripT, stripL, g3]
    refine ⟨fun t h hv => ?_, hr⟩
    intro k s bs hk hs hf
    obtain ⟨j, rfl⟩ : ∃ j, k = j + 4 := ⟨k - 4, by omega⟩
    cases hv with
    | num m o hm =>
      have hs' : Lx.keys s.toks = (2, dig m.toNat) :: bs := hs
      obtain ⟨h1, h2, h3⟩ := key_cons (E := E) hs'
      refine ⟨_, Px.rest s, wrap (t := .mk 1 [] [] (Px.numVal (dig m.toNat)) 0 0 false [] (Px.offOf E s)) (by rw [acc_eq h1]; exact dig_no (by decide)) (by rw [acc_eq h1]; exact dig_no (by decide)) ?_ h3 hf, h3, ?_⟩
      · rw [Px.run, acc_eq h1, acc_eq h1, acc_eq h1, dig_no (by decide), dig_no (by decide), dig_no (by decide), if_neg Bool.false_ne_true, if_neg Bool.false_ne_true, if_neg Bool.false_ne_true, if_pos h2]
        unfold Px.numeral
        rw [number_ok hs']
        rfl
      · rw [num_val hm]; rfl
    | up _ hv =>
      have hR := hr t h hv j s bs (by omega) hs hf
      obtain ⟨t', s', e1, e2, e3⟩ := hR
      obtain ⟨a, r, hka, hna⟩ : ∃ a r, Lx.keys s.toks = (1, a) :: r ∧ NameOk a := by
        cases hv with
        | ref x o hx =>
          obtain ⟨a, r, rfl, hn, _⟩ := hx
          have hs' : Lx.keys s.toks = kx (pth (joinN a r)) ++ bs := hs
          rw [path_pieces a r hn, kx_names] at hs'
          exact ⟨a, _, hs', hn a (by simp)⟩
        | idx x o e hx he =>
          obtain ⟨a, r, rfl, hn, _⟩ := hx
          have hs' : Lx.keys s.toks = kx (pth (joinN a r) ++ (false, 3, [91]) :: (pcs e ++ [(false, 3, [93])])) ++ bs := hs
          rw [kx_app, path_pieces a r hn, kx_names] at hs'
          exact ⟨a, _, hs', hn a (by simp)⟩
      obtain ⟨h1, h2, _⟩ := key_cons (E := E) hka
      refine ⟨t', s', wrap (by rw [acc_eq h1]; exact name_nokey hna (by decide)) (by rw [acc_eq h1]; exact name_nokey hna (by decide)) ?_ e2 hf, e2, e3⟩
      rw [Px.run, acc_eq h1, acc_eq h1, acc_eq h1, name_nosym hna (by decide), name_nokey hna (by decide), name_nosym hna (by decide), if_neg Bool.false_ne_true, if_neg Bool.false_ne_true, if_neg Bool.false_ne_true, if_neg (by rw [h2]; decide)]
      exact e1
    | all q x m e o hq hx hm he =>
      have hse : Px.size e ≤ n := by rw [Px.size, Px.sizes, Px.sizes] at h; omega
      have hkx : kx (pcs (.mk q x [] m 0 0 false [e] o)) = (1, if q = 7 then [97, 108, 108] else [115, 111, 109, 101]) :: (1, x) :: (3, [60]) :: (2, dig m.toNat) :: (3, [58]) :: kx (par true (pcs e)) := by
        rcases hq with rfl | rfl <;> rfl
      rw [hkx] at hk hs
      simp only [List.length_cons] at hk
      have hlp : (kx (par true (pcs e))).length = (kx (pcs e)).length + 2 := by rw [kx_par]; simp
      simp only [List.cons_append] at hs
      obtain ⟨h1, _, h3⟩ := key_cons (E := E) hs
      obtain ⟨_, _, h5⟩ := key_cons (E := E) h3
      obtain ⟨_, _, h7⟩ := key_cons (E := E) h5
      obtain ⟨_, _, h9⟩ := key_cons (E := E) h7
      obtain ⟨_, _, h11⟩ := key_cons (E := E) h9
      obtain ⟨t', s', e1, e2, e3⟩ := expr_par (ih1 e hse he) true (j + 3) _ bs (by omega) h11 hf
      refine ⟨.mk q x [] m 0 0 false [t'] (Px.offOf E s), s', ?_, e2, ?_⟩
      · rw [Px.run, if_pos (by rcases hq with rfl | rfl <;> rw [acc_eq h1, acc_eq h1] <;> decide), name_ok h3 hx]
        show (Px.expect E [60] _).bind _ = _
        rw [exp_ok h5]
        show (Px.number E _).bind _ = _
        rw [number_ok h7]
        show (Px.expect E [58] _).bind _ = _
        rw [exp_ok h9]
        show (Px.run E (j + 3) .expr _).bind _ = _
        rw [e1, num_val hm]
        show Res.ok _ _ = _
        rcases hq with rfl | rfl <;> rw [acc_eq h1] <;> rfl
      · simp [stripT, stripL, e3]
    | cond a b c o ha hb hc =>
      rw [Px.size, Px.sizes, Px.sizes, Px.sizes, Px.sizes] at h
      have hkx : kx (pcs (.mk 6 [] [] 0 0 0 false [a, b, c] o)) = kx (par false (pcs a)) ++ (3, [63]) :: (kx (par true (pcs b)) ++ (3, [58]) :: kx (par true (pcs c))) := by
        show kx (par false (pcs a) ++ (true, 3, [63]) :: (par true (pcs b) ++ (true, 3, [58]) :: par true (pcs c))) = _
        rw [kx_app]
        show _ ++ (3, [63]) :: kx (par true (pcs b) ++ (true, 3, [58]) :: par true (pcs c)) = _
        rw [kx_app]
        rfl
      rw [hkx] at hk hs
      have hla : (kx (par false (pcs a))).length = (kx (pcs a)).length + 2 := by rw [kx_par]; simp
      have hlb : (kx (par true (pcs b))).length = (kx (pcs b)).length + 2 := by rw [kx_par]; simp
      have hlc : (kx (par true (pcs c))).length = (kx (pcs c)).length + 2 := by rw [kx_par]; simp
      simp only [List.length_append, List.length_cons] at hk
      simp only [List.append_assoc, List.cons_append] at hs
      have ht := par_text (E := E) hs
      obtain ⟨a', s1, e1, e2, e3⟩ := unary_par (ih1 a (by omega) ha) false (j + 1) s _ (by omega) hs
      obtain ⟨q1, _, q3⟩ := key_cons (E := E) e2
      obtain ⟨b', s2, f1, f2, f3⟩ := cond_par (ih1 b (by omega) hb) true (j + 2) (Px.rest s1) _ (by omega) q3 (fun s' h' => by
        obtain ⟨h1, _⟩ := key_cons (E := E) h'
        rw [acc_eq h1, h1]
        exact ⟨rfl, rfl⟩)
      obtain ⟨_, _, r3⟩ := key_cons (E := E) f2
      obtain ⟨c', s3, g1, g2, g3⟩ := cond_par (ih1 c (by omega) hc) true (j + 2) (Px.rest s2) bs (by omega) r3 (fun s' h' => ⟨(fo_at (E := E) h' hf).1, (fo_at (E := E) h' hf).2.1⟩)
      refine ⟨T.of 6 (Px.offOf E s1) [a', b', c'], s3, ?_, g2, by simp [T.of, stripT, stripL, e3, f3, g3]⟩
      rw [expr_cond (by rw [acc_eq ht]; decide) (by rw [acc_eq ht]; decide), Px.run, wrap_bin (Int.le_refl 1) e1 (by rw [q1]; rfl)]
      show (if Px.accepts E [63] s1 = true then _ else _) = _
      rw [acc_eq q1, if_pos (by decide), f1]
      show (Px.expect E [58] s2).bind _ = _
      rw [exp_ok f2]
      show (Px.run E (j + 2) .cond (Px.rest s2)).bind _ = _
      rw [g1]
      rfl
    | bin x a b o hx ha hb =>
      rw [Px.size, Px.sizes, Px.sizes, Px.sizes] at h
      have hkx : kx (pcs (.mk 5 x [] 0 0 0 false [a, b] o)) = kx (par false (pcs a)) ++ (3, x) :: kx (par true (pcs b)) := by
        show kx (par false (pcs a) ++ (true, 3, x) :: par true (pcs b)) = _
        rw [kx_app]
        rfl
      rw [hkx] at hk hs
      have hla : (kx (par false (pcs a))).length = (kx (pcs a)).length + 2 := by rw [kx_par]; simp
      have hlb : (kx (par true (pcs b))).length = (kx (pcs b)).length + 2 := by rw [kx_par]; simp
      simp only [List.length_append, List.length_cons] at hk
      simp only [List.append_assoc, List.cons_append] at hs
      have ht := par_text (E := E) hs
      obtain ⟨i, rfl⟩ : ∃ i, j = i + 2 := ⟨j - 2, by omega⟩
      obtain ⟨a', s1, e1, e2, e3⟩ := unary_par (ih1 a (by omega) ha) false (i + 3) s _ (by omega) hs
      obtain ⟨q1, _, q3⟩ := key_cons (E := E) e2
      obtain ⟨b', s2, f1, f2, f3⟩ := unary_par (ih1 b (by omega) hb) true (i + 1) (Px.rest s1) bs (by omega) q3
      obtain ⟨g1, g2, _⟩ := fo_at (E := E) f2 hf
      refine ⟨T.named 5 (Px.offOf E s1) x [a', b'], s2, ?_, f2, by simp [T.named, stripT, stripL, e3, f3]⟩
      have hloop : Px.run E (i + 3) (.loop 1 9 a') s1 = .ok (T.named 5 (Px.offOf E s1) x [a', b']) s2 := by
        rw [Px.run]
        try simp only
        rw [q1, if_neg (by have := level_nine x; omega), wrap_bin (lor_pos' hx) f1 g1]
        show Px.run E (i + 2) (.loop 1 _ _) s2 = _
        rw [Px.run]
        try simp only
        rw [if_pos (.inl (by omega))]
      rw [expr_cond (by rw [acc_eq ht]; decide) (by rw [acc_eq ht]; decide), Px.run, Px.run, e1]
      show ((Px.run E (i + 3) (.loop 1 9 a') s1)).bind _ = _
      rw [hloop]
      show (if Px.accepts E [63] s2 = true then _ else _) = _
      rw [g2, if_neg Bool.false_ne_true]
    | not a o ha =>
      have hsa : Px.size a ≤ n := by rw [Px.size, Px.sizes, Px.sizes] at h; omega
      have hkx : kx (pcs (.mk 4 [] [] 0 0 0 false [a] o)) = (3, [33]) :: kx (par false (pcs a)) := rfl
      rw [hkx] at hk hs
      have hla : (kx (par false (pcs a))).length = (kx (pcs a)).length + 2 := by rw [kx_par]; simp
      simp only [List.length_cons] at hk
      simp only [List.cons_append] at hs
      obtain ⟨h1, _, h3⟩ := key_cons (E := E) hs
      obtain ⟨a', s1, e1, e2, e3⟩ := unary_par (ih1 a hsa ha) false j (Px.rest s) bs (by omega) h3
      refine ⟨T.of 4 (Px.offOf E s) [a'], s1, wrap (by rw [acc_eq h1]; decide) (by rw [acc_eq h1]; decide) ?_ e2 hf, e2, by simp [T.of, stripT, stripL, e3]⟩
      rw [Px.run, acc_eq h1, if_pos (by decide), e1]
      rfl
    | old a o ha =>
      have hsa : Px.size a ≤ n := by rw [Px.size, Px.sizes, Px.sizes] at h; omega
      have hkx : kx (pcs (.mk 3 [] [] 0 0 0 false [a] o)) = (1, [111, 108, 100]) :: (3, [40]) :: (kx (pcs a) ++ [(3, [41])]) := by
        show (1, [111, 108, 100]) :: kx (par false (pcs a)) = _
        rw [kx_par]
      rw [hkx] at hk hs
      simp only [List.length_append, List.length_cons, List.length_nil] at hk
      simp only [List.append_assoc, List.cons_append, List.nil_append] at hs
      obtain ⟨h1, _, h3⟩ := key_cons (E := E) hs
      obtain ⟨_, _, h5⟩ := key_cons (E := E) h3
      obtain ⟨a', s1, e1, e2, e3⟩ := ih2 a hsa ha j _ _ (by omega) h5 (fo_close bs)
      obtain ⟨_, _, h7⟩ := key_cons (E := E) e2
      refine ⟨T.of 3 (Px.offOf E s) [a'], Px.rest s1, wrap (by rw [acc_eq h1]; decide) (by rw [acc_eq h1]; decide) ?_ h7 hf, h7, by simp [T.of, stripT, stripL, e3]⟩
      rw [Px.run, acc_eq h1, acc_eq h1, if_neg (by decide), if_pos (by decide), exp_ok h3]
      show (Px.run E j .ref _).bind _ = _
      rw [e1]
      show (Px.expect E [41] s1).bind _ = _
      rw [exp_ok e2]
      rfl
mutual
theorem stripT_size : ∀ t : T, Px.size (stripT t) = Px.size t
  | .mk _ _ _ _ _ _ _ kids _ => by rw [stripT, Px.size, Px.size, stripL_sizes kids]
theorem stripL_sizes : ∀ l : List T, Px.sizes (stripL l) = Px.sizes l
  | [] => by rw [stripL]
  | t :: r => by rw [stripL, Px.sizes, Px.sizes, stripT_size t, stripL_sizes r]
end
mutual
theorem stripT_depth : ∀ t : T, Px.depth (stripT t) = Px.depth t
  | .mk _ _ _ _ _ _ _ kids _ => by rw [stripT, Px.depth, Px.depth, stripL_depths kids]
theorem stripL_depths : ∀ l : List T, Px.depths (stripL l) = Px.depths l
  | [] => by rw [stripL]
  | t :: r => by rw [stripL, Px.depths, Px.depths, stripT_depth t, stripL_depths r]
end
theorem strip_fits {t u : T} (h : stripT t = stripT u) : Px.fits t = Px.fits u := by
  unfold Px.fits
  rw [← stripT_size t, ← stripT_size u, ← stripT_depth t, ← stripT_depth u, h]
theorem pth_head {x : Px.Str} (h : PathV x) : ∀ p, (pth x).head? = some p → p.1 = false := by
  obtain ⟨a, r, rfl, hn, _⟩ := h
  rw [path_pieces a r hn]
  intro p hp
  cases hp
  rfl
theorem pcs_headR {t : T} (h : RV t) : ∀ p, (pcs t).head? = some p → p.1 = false := by
  cases h with
  | ref x o hx => exact pth_head hx
  | idx x o e hx he =>
    intro p hp
    have hp' : (pth x ++ (false, 3, [91]) :: (pcs e ++ [(false, 3, [93])])).head? = some p := hp
    have h9 := pth_head hx
    cases hq : pth x with
    | nil => rw [hq] at hp'; cases hp'; rfl
    | cons q r => rw [hq] at hp' h9; exact h9 p hp'
theorem pcs_head {t : T} (h : EV t) : ∀ p, (pcs t).head? = some p → p.1 = false := by
  cases h with
  | num n o hn => intro p hp; cases hp; rfl
  | up _ h => exact pcs_headR h
  | all k x n e o hk hx hn he => rcases hk with rfl | rfl <;> (intro p hp; cases hp; rfl)
  | cond a b c o ha hb hc => intro p hp; cases hp; rfl
  | bin x a b o hx ha hb => intro p hp; cases hp; rfl
  | not a o ha => intro p hp; cases hp; rfl
  | old a o ha => intro p hp; cases hp; rfl
/-- the text of a valid expression is read as that expression -/
theorem parse_tx {t : T} (hv : EV t) (hf : Px.fits t = true) {ts : List Lx.Tok} {p : Nat} (hl : Lx.lex (tx t) = (ts, 0, p)) : ∃ t', Px.parseExpr (tx t) = (t', []) ∧ stripT t' = stripT t := by
  have hk := lex_pieces ((okp_ev (Px.size t)).1 t (Nat.le_refl _) hv) (pcs_head hv) hl
  have hlen : ts.length = (kx (pcs t)).length := by rw [← hk]; unfold Lx.keys; rw [List.length_map]
  obtain ⟨t', s', e1, e2, e3⟩ := (reads_ev (E := (tx t).length) (Px.size t)).1 t (Nat.le_refl _) hv (Px.fuel (Px.start ts)) (Px.start ts) [] (by unfold Px.fuel Px.start; simp only; omega) (by rw [List.append_nil]; exact hk) fo_nil
  have hw : Px.whole (tx t).length (Px.start ts) = .ok t' s' := by
    unfold Px.whole Px.expr
    rw [e1]
    show (match s'.toks with | [] => _ | _ :: _ => _) = _
    rw [(key_nil (E := 0) e2).2]
  refine ⟨t', ?_, e3⟩
  unfold Px.parseExpr
  rw [hl]
  unfold Px.item
  simp only [ne_eq, not_true_eq_false, if_false, hw]
  rw [strip_fits e3, hf]
  rfl
end Go.Proofs.YtbgpboiblggmiaaGreatDoor

