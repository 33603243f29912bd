/-
  Valid expressions, their pieces.
-/
import Derived.Test.YtbgpboiblggmiaaGreatDoorQPea
set_option linter.unusedVariables false
set_option linter.unusedSimpArgs false
namespace Go.Proofs.YtbgpboiblggmiaaGreatDoor
open Go.RowKit
open Px (St T D Res)

def PathV (x : Px.Str) : Prop := ∃ a r, x = joinN a r ∧ (∀ n ∈ a :: r, NameOk n) ∧ r.length ≤ 2
mutual
/-- an expression that the reference calls valid -/
inductive EV : T → Prop
  | num (n o : Int) (h : NumOk n) : EV (.mk 1 [] [] n 0 0 false [] o)
  | up (t : T) (h : RV t) : EV t
  | all (k : Int) (x : Px.Str) (n : Int) (e : T) (o : Int) (hk : k = 7 ∨ k = 8) (hx : NameOk x) (hn : NumOk n) (he : EV e) : EV (.mk k x [] n 0 0 false [e] o)
  | cond (a b c : T) (o : Int) (ha : EV a) (hb : EV b) (hc : EV c) : EV (.mk 6 [] [] 0 0 0 false [a, b, c] o)
  | bin (x : Px.Str) (a b : T) (o : Int) (hx : 0 < Px.level x) (ha : EV a) (hb : EV b) : EV (.mk 5 x [] 0 0 0 false [a, b] o)
  | not (a : T) (o : Int) (ha : EV a) : EV (.mk 4 [] [] 0 0 0 false [a] o)
  | old (a : T) (o : Int) (ha : RV a) : EV (.mk 3 [] [] 0 0 0 false [a] o)
/-- a reference -/
inductive RV : T → Prop
  | ref (x : Px.Str) (o : Int) (h : PathV x) : RV (.mk 2 x [] 0 0 0 false [] o)
  | idx (x : Px.Str) (o : Int) (e : T) (h : PathV x) (he : EV e) : RV (.mk 2 x [] 0 0 0 false [e] o)
end
theorem PathV.ok {x : Px.Str} (h : PathV x) : PathOk x := by
  obtain ⟨a, r, rfl, h1, h2⟩ := h
  exact path_join a r h1 h2
/-- a valid expression is well formed -/
theorem ev_ok : ∀ n : Nat, (∀ t, Px.size t ≤ n → EV t → ExprOk t) ∧ (∀ t, Px.size t ≤ n → RV t → RefOk t)
  | 0 => ⟨fun t h => by cases t; rw [Px.size] at h; omega, fun t h => by cases t; rw [Px.size] at h; omega⟩
  | n + 1 => by
    obtain ⟨ih1, ih2⟩ := ev_ok n
    have hr : ∀ t, Px.size t ≤ n + 1 → RV t → RefOk t := by
      intro t h hv
      cases hv with
      | ref x o hx => exact er_ok.ref x o hx.ok
      | idx x o e hx he => exact er_ok.idx x o e hx.ok (ih1 e (by rw [Px.size, Px.sizes, Px.sizes] at h; omega) he)
    refine ⟨fun t h hv => ?_, hr⟩
    cases hv with
    | num n o hn => exact er_ok.num n o hn
    | up _ hv => exact ref_up (hr t h hv)
    | all k x n e o hk hx hn he => exact er_ok.all k x n e o hk hx hn (ih1 e (by rw [Px.size, Px.sizes, Px.sizes] at h; omega) he)
    | cond a b c o ha hb hc =>
      rw [Px.size, Px.sizes, Px.sizes, Px.sizes, Px.sizes] at h
      exact er_ok.cond a b c o (ih1 a (by omega) ha) (ih1 b (by omega) hb) (ih1 c (by omega) hc)
    | bin x a b o hx ha hb =>
      rw [Px.size, Px.sizes, Px.sizes, Px.sizes] at h
      exact er_ok.bin x a b o hx (ih1 a (by omega) ha) (ih1 b (by omega) hb)
    | not a o ha => exact er_ok.not a o (ih1 a (by rw [Px.size, Px.sizes, Px.sizes] at h; omega) ha)
    | old a o ha => exact er_ok.old a o (ih2 a (by rw [Px.size, Px.sizes, Px.sizes] at h; omega) ha)

/-- decimal digits -/
def dig (n : Nat) : List UInt8 := if h : n < 10 then [UInt8.ofNat (48 + n)] else dig (n / 10) ++ [UInt8.ofNat (48 + n % 10)]
termination_by n
decreasing_by omega
theorem dig_small {n : Nat} (h : n < 10) : dig n = [UInt8.ofNat (48 + n)] := by rw [dig, dif_pos h]
theorem dig_big {n : Nat} (h : ¬ n < 10) : dig n = dig (n / 10) ++ [UInt8.ofNat (48 + n % 10)] := by rw [dig, dif_neg h]
theorem byte_of {d : Nat} (h : d < 10) : (UInt8.ofNat (48 + d)).toNat = 48 + d := by
  rw [UInt8.toNat_ofNat']
  omega
theorem dig_all : ∀ (k n : Nat), n < 10 ^ k → (∀ c ∈ dig n, Lx.digitU c = true) ∧ 1 ≤ (dig n).length ∧ ((dig n).length ≤ k ∨ k = 0) ∧ Px.numVal (dig n) = n ∧ ((dig n).head? = some 48 → n = 0)
  | 0, n, h => by
    have hn : n = 0 := by simp at h; exact h
    subst hn
    rw [dig_small (by omega)]
    exact ⟨by decide, by decide, .inr rfl, by decide, fun _ => rfl⟩
  | k + 1, n, h => by
    have hd : ∀ d, d < 10 → Lx.digitU (UInt8.ofNat (48 + d)) = true := by
      intro d hd
      unfold Lx.digitU Lx.digit
      rw [byte_of hd]
      simp
      omega
    by_cases h10 : n < 10
    · rw [dig_small h10]
      refine ⟨fun c hc => by rw [List.mem_singleton.1 hc]; exact hd n h10, by simp, .inl (by simp), ?_, fun h0 => ?_⟩
      · unfold Px.numVal
        simp only [List.foldl_cons, List.foldl_nil]
        rw [byte_of h10]
        omega
      · simp only [List.head?_cons, Option.some.injEq] at h0
        have := congrArg UInt8.toNat h0
        rw [byte_of h10] at this
        have h48 : (48 : UInt8).toNat = 48 := rfl
        omega
    · have hlt : n / 10 < 10 ^ k := by rw [Nat.pow_succ] at h; omega
      obtain ⟨i1, i2, i3, i4, i5⟩ := dig_all k (n / 10) hlt
      have hm : n % 10 < 10 := Nat.mod_lt _ (by omega)
      rw [dig_big h10]
      refine ⟨fun c hc => ?_, by rw [List.length_append]; omega, .inl ?_, ?_, fun h0 => ?_⟩
      · rcases List.mem_append.1 hc with hc | hc
        · exact i1 c hc
        · rw [List.mem_singleton.1 hc]; exact hd _ hm
      · rw [List.length_append, List.length_singleton]
        rcases i3 with i3 | i3
        · omega
        · subst i3; simp at hlt; omega
      · unfold Px.numVal at i4 ⊢
        rw [List.foldl_append, i4]
        simp only [List.foldl_cons, List.foldl_nil]
        rw [byte_of hm]
        omega
      · exfalso
        have h1 : (dig (n / 10) ++ [UInt8.ofNat (48 + n % 10)]).head? = (dig (n / 10)).head? := by
          cases hx : dig (n / 10) with
          | nil => rw [hx] at i2; simp at i2
          | cons c r => rfl
        rw [h1] at h0
        have := i5 h0
        omega
theorem run_full {p : UInt8 → Bool} : ∀ (l : List UInt8), (∀ c ∈ l, p c = true) → Lx.run p l = l.length
  | [], _ => rfl
  | c :: r, h => by rw [Lx.run_cons, if_pos (h c (by simp)), run_full r (fun d hd => h d (by simp [hd])), List.length_cons]; omega
theorem digit_noletter {c : UInt8} (h : Lx.digitU c = true) : Lx.letterU c = false := by
  unfold Lx.digitU Lx.digit at h
  simp only [Bool.and_eq_true, decide_eq_true_eq] at h
  unfold Lx.letterU Lx.letter
  simp only [Bool.or_eq_false_iff, Bool.and_eq_false_iff, decide_eq_false_iff_not]
  omega
theorem al_dig (sp : Bool) {n : Int} (h : NumOk n) : Al (sp, 2, dig n.toNat) := by
  unfold NumOk at h
  obtain ⟨d1, d2, d3, _, d5⟩ := dig_all 9 n.toNat (by rw [show (10 : Nat) ^ 9 = 1000000000 from rfl]; omega)
  show Lx.tok (dig n.toNat) = some (2, (dig n.toNat).length)
  cases hx : dig n.toNat with
  | nil => rw [hx] at d2; simp at d2
  | cons c r =>
    rw [hx] at d1 d2 d3 d5
    have hc := d1 c (by simp)
    rw [Lx.tok_cons, if_neg (by rw [digit_noletter hc]; exact Bool.false_ne_true), if_pos hc, run_full _ d1, if_pos]
    unfold Lx.numOk
    rw [List.drop_length]
    have e1 : decide ((c :: r).length ≤ 9) = true := decide_eq_true (by omega)
    rw [e1]
    cases h48 : ((c :: r).head? == some 48) with
    | false => rfl
    | true =>
      have h0 := d5 (by rw [List.head?_cons] at h48 ⊢; exact beq_iff_eq.1 h48)
      rw [h0, dig_small (by omega)] at hx
      cases hx
      rfl
theorem al_name (sp : Bool) {x : Px.Str} (h : NameOk x) : Al (sp, 1, x) := by
  obtain ⟨⟨l1, l2⟩, h2, h3, _⟩ := h
  show Lx.tok x = some (1, x.length)
  cases x with
  | nil => simp at l1
  | cons c r => rw [Lx.tok_cons, if_pos (h2 c r rfl), run_full _ h3, if_pos l2]

/-- pieces of a path -/
def pthN : List (List UInt8) → List Pc
  | [] => []
  | a :: r => (false, 1, a) :: r.flatMap fun n => [(false, 3, [46]), (false, 1, n)]
def pth (x : List UInt8) : List Pc := pthN (Lib.splitK [46] 0 (x.count 46) x)
def par (sp : Bool) (p : List Pc) : List Pc := (sp, 3, [40]) :: (p ++ [(false, 3, [41])])
def pk (k : Int) (x : List UInt8) (n : Int) (ks : List (List Pc)) : List Pc :=
  if k = 1 then [(false, 2, dig n.toNat)]
  else if k = 2 then (match ks with | [] => pth x | e :: _ => pth x ++ (false, 3, [91]) :: (e ++ [(false, 3, [93])]))
  else if k = 3 then (false, 1, [111, 108, 100]) :: par false (ks.getD 0 [])
  else if k = 4 then (false, 3, [33]) :: par false (ks.getD 0 [])
  else if k = 5 then par false (ks.getD 0 []) ++ (true, 3, x) :: par true (ks.getD 1 [])
  else if k = 6 then par false (ks.getD 0 []) ++ (true, 3, [63]) :: (par true (ks.getD 1 []) ++ (true, 3, [58]) :: par true (ks.getD 2 []))
  else (false, 1, if k = 7 then [97, 108, 108] else [115, 111, 109, 101]) :: (true, 1, x) :: (true, 3, [60]) :: (true, 2, dig n.toNat) :: (true, 3, [58]) :: par true (ks.getD 0 [])
mutual
/-- the pieces of an expression's text -/
def pcs : T → List Pc
  | .mk k x _ n _ _ _ kids _ => pk k x n (pcsL kids)
def pcsL : List T → List (List Pc)
  | [] => []
  | t :: r => pcs t :: pcsL r
end
def tx (t : T) : List UInt8 := fl (pcs t)
theorem path_pieces (a : Px.Str) (r : List Px.Str) (h : ∀ n ∈ a :: r, NameOk n) : pth (joinN a r) = pthN (a :: r) := by unfold pth; rw [join_count a r h, join_split a r h]

theorem al_sym {sp : Bool} {x : List UInt8} (h : Lx.tok x = some (3, x.length)) : Al (sp, 3, x) := h
theorem free_open (sp : Bool) : Free (sp, 3, [40]) := fun b => rfl
theorem free_left (sp : Bool) : Free (sp, 3, [91]) := fun b => rfl
theorem free_dot (sp : Bool) : Free (sp, 3, [46]) := fun b => rfl
theorem soft_sp (k : Nat) (x : List UInt8) : Soft (true, k, x) := .inl rfl
theorem soft_open : Soft (false, 3, [40]) := .inr ⟨40, [], rfl, ends2_open⟩
theorem soft_close : Soft (false, 3, [41]) := .inr ⟨41, [], rfl, ends2_close⟩
theorem soft_left : Soft (false, 3, [91]) := .inr ⟨91, [], rfl, ends2_left⟩
theorem soft_right : Soft (false, 3, [93]) := .inr ⟨93, [], rfl, ends2_right⟩
theorem soft_dot : Soft (false, 3, [46]) := .inr ⟨46, [], rfl, ends2_dot⟩
theorem okp_one {p : Pc} (h : Al p) : OkP [p] := okp_cons h (.inr (fun q hq => by cases hq)) okp_nil
theorem okp_par {sp : Bool} {p : List Pc} (h : OkP p) : OkP (par sp p) :=
  okp_cons (al_sym rfl) (.inl (free_open sp)) (okp_app h (okp_one (al_sym rfl)) (fun q hq => by cases hq; exact soft_close))
theorem okp_names : ∀ (a : Px.Str) (r : List Px.Str), (∀ n ∈ a :: r, NameOk n) → OkP (pthN (a :: r))
  | a, [], h => okp_one (al_name _ (h a (by simp)))
  | a, b :: r, h => by
    have ih := okp_names b r (fun n hn => h n (by simp at hn ⊢; right; exact hn))
    show OkP ((false, 1, a) :: (false, 3, [46]) :: pthN (b :: r))
    exact okp_cons (al_name _ (h a (by simp))) (.inr (fun q hq => by cases hq; exact soft_dot)) (okp_cons (al_sym rfl) (.inl (free_dot _)) ih)
theorem okp_path {x : Px.Str} (h : PathV x) : OkP (pth x) := by
  obtain ⟨a, r, rfl, h1, _⟩ := h
  rw [path_pieces a r h1]
  exact okp_names a r h1
theorem level_sym {x : Px.Str} (h : 0 < Px.level x) : Lx.tok x = some (3, x.length) := by
  have hc : x = [61, 61, 62] ∨ x = [124, 124] ∨ x = [38, 38] ∨ x = [61, 61] ∨ x = [33, 61] ∨ x = [60] ∨ x = [60, 61] ∨ x = [124] ∨ x = [94] ∨ x = [38] ∨ x = [43] ∨ x = [45] ∨ x = [42] := by
    unfold Px.level at h
    repeat' split at h
    all_goals (first | omega | (simp_all; done) | (rename_i hh; rcases hh with rfl | rfl | rfl | rfl <;> simp) | (rename_i hh; rcases hh with rfl | rfl <;> simp))
  rcases hc with rfl | rfl | rfl | rfl | rfl | rfl | rfl | rfl | rfl | rfl | rfl | rfl | rfl <;> rfl
/-- the pieces of a valid expression can be told apart -/
theorem okp_ev : ∀ n : Nat, (∀ t, Px.size t ≤ n → EV t → OkP (pcs t)) ∧ (∀ t, Px.size t ≤ n → RV t → OkP (pcs t))
  | 0 => ⟨fun t h => by cases t; rw [Px.size] at h; omega, fun t h => by cases t; rw [Px.size] at h; omega⟩
  | n + 1 => by
    obtain ⟨ih1, ih2⟩ := okp_ev n
    have hr : ∀ t, Px.size t ≤ n + 1 → RV t → OkP (pcs t) := by
      intro t h hv
      cases hv with
      | ref x o hx => exact okp_path hx
      | idx x o e hx he =>
        have h1 := ih1 e (by rw [Px.size, Px.sizes, Px.sizes] at h; omega) he
        show OkP (pth x ++ (false, 3, [91]) :: (pcs e ++ [(false, 3, [93])]))
        exact okp_app (okp_path hx) (okp_cons (al_sym rfl) (.inl (free_left _)) (okp_app h1 (okp_one (al_sym rfl)) (fun q hq => by cases hq; exact soft_right))) (fun q hq => by cases hq; exact soft_left)
    refine ⟨fun t h hv => ?_, hr⟩
    cases hv with
    | num n o hn => exact okp_one (al_dig _ hn)
    | up _ hv => exact hr t h hv
    | all k x n e o hk hx hn he =>
      have h1 := ih1 e (by rw [Px.size, Px.sizes, Px.sizes] at h; omega) he
      have h2 : OkP ((true, 1, x) :: (true, 3, [60]) :: (true, 2, dig n.toNat) :: (true, 3, [58]) :: par true (pcs e)) :=
        okp_cons (al_name _ hx) (.inr (fun q hq => by cases hq; exact soft_sp _ _)) (okp_cons (al_sym rfl) (.inr (fun q hq => by cases hq; exact soft_sp _ _)) (okp_cons (al_dig _ hn) (.inr (fun q hq => by cases hq; exact soft_sp _ _)) (okp_cons (al_sym rfl) (.inr (fun q hq => by cases hq; exact soft_sp _ _)) (okp_par h1))))
      rcases hk with rfl | rfl
      · exact okp_cons (p := (false, 1, [97, 108, 108])) (show Lx.tok [97, 108, 108] = some (1, 3) from rfl) (.inr (fun q hq => by cases hq; exact soft_sp _ _)) h2
      · exact okp_cons (p := (false, 1, [115, 111, 109, 101])) (show Lx.tok [115, 111, 109, 101] = some (1, 4) from rfl) (.inr (fun q hq => by cases hq; exact soft_sp _ _)) h2
    | cond a b c o ha hb hc =>
      rw [Px.size, Px.sizes, Px.sizes, Px.sizes, Px.sizes] at h
      have h1 := okp_par (sp := false) (ih1 a (by omega) ha)
      have h2 := okp_par (sp := true) (ih1 b (by omega) hb)
      have h3 := okp_par (sp := true) (ih1 c (by omega) hc)
      show OkP (par false (pcs a) ++ (true, 3, [63]) :: (par true (pcs b) ++ (true, 3, [58]) :: par true (pcs c)))
      exact okp_app h1 (okp_cons (al_sym rfl) (.inr (fun q hq => by cases hq; exact soft_sp _ _)) (okp_app h2 (okp_cons (al_sym rfl) (.inr (fun q hq => by cases hq; exact soft_sp _ _)) h3) (fun q hq => by cases hq; exact soft_sp _ _))) (fun q hq => by cases hq; exact soft_sp _ _)
    | bin x a b o hx ha hb =>
      rw [Px.size, Px.sizes, Px.sizes, Px.sizes] at h
      have h1 := okp_par (sp := false) (ih1 a (by omega) ha)
      have h2 := okp_par (sp := true) (ih1 b (by omega) hb)
      show OkP (par false (pcs a) ++ (true, 3, x) :: par true (pcs b))
      exact okp_app h1 (okp_cons (al_sym (level_sym hx)) (.inr (fun q hq => by cases hq; exact soft_sp _ _)) h2) (fun q hq => by cases hq; exact soft_sp _ _)
    | not a o ha =>
      have h1 := okp_par (sp := false) (ih1 a (by rw [Px.size, Px.sizes, Px.sizes] at h; omega) ha)
      exact okp_cons (p := (false, 3, [33])) (al_sym rfl) (.inr (fun q hq => by cases hq; exact soft_open)) h1
    | old a o ha =>
      have h1 := okp_par (sp := false) (ih2 a (by rw [Px.size, Px.sizes, Px.sizes] at h; omega) ha)
      exact okp_cons (p := (false, 1, [111, 108, 100])) (show Lx.tok [111, 108, 100] = some (1, 3) from rfl) (.inr (fun q hq => by cases hq; exact soft_open)) h1
end Go.Proofs.YtbgpboiblggmiaaGreatDoor

