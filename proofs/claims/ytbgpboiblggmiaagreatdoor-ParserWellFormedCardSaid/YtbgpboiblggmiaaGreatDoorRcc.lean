/-
  Where items begin in a tree that was read.
-/
import Derived.Test.YtbgpboiblggmiaaGreatDoorRcb
import Derived.Test.YtbgpboiblggmiaaGreatDoorSzb
set_option linter.unusedVariables false
set_option linter.unusedSimpArgs false
namespace Go.Proofs.YtbgpboiblggmiaaGreatDoor.Px
open Lx (Tok)
variable {E : Nat}

def isList (k : Int) : Bool := k == 62 || k == 60 || k == 51 || k == 34
mutual
/-- the offsets of all items in a tree's lists -/
def itemsT : T → List Int
  | .mk k _ _ _ _ _ _ kids _ => itemsG (isList k) kids
def itemsG (b : Bool) : List T → List Int
  | [] => []
  | t :: r => (if b then [t.off] else []) ++ itemsT t ++ itemsG b r
end
theorem items_app (b : Bool) : ∀ l m : List T, itemsG b (l ++ m) = itemsG b l ++ itemsG b m
  | [], m => by rw [itemsG]; rfl
  | t :: l, m => by rw [List.cons_append, itemsG, itemsG, items_app b l m]; simp only [List.append_assoc]
def NI (t : T) : Prop := itemsT t = []
def NIL (l : List T) : Prop := itemsG false l = []
theorem nil_nil : NIL [] := by unfold NIL; rw [itemsG]
theorem nil_cons {t : T} {r : List T} (h : NI t) (h2 : NIL r) : NIL (t :: r) := by unfold NIL NI at *; rw [itemsG, h, h2]; rfl
theorem nil_app {l m : List T} (h : NIL l) (h2 : NIL m) : NIL (l ++ m) := by unfold NIL at *; rw [items_app, h, h2]; rfl
theorem nil_tail {l : List T} (h : NIL l) : NIL l.tail := by
  cases l with
  | nil => exact nil_nil
  | cons t r => unfold NIL at *; rw [itemsG] at h; exact (List.append_eq_nil_iff.1 h).2
theorem ni_mk {k : Int} {x y : Str} {n l i : Int} {g : Bool} {kids : List T} {o : Int} (hk : isList k = false) (h : NIL kids) : NI (.mk k x y n l i g kids o) := by
  unfold NI NIL at *
  rw [itemsT, hk]
  exact h

/-- rules for expressions: Φ of all, Ψ of references -/
structure ER (Φ Ψ : T → Prop) (NM PT : Str → Prop) (NB : Int → Prop) : Prop where
  num : ∀ n o, NB n → Φ (.mk 1 [] [] n 0 0 false [] o)
  ref : ∀ x o, PT x → Ψ (T.named 2 o x [])
  idx : ∀ x o e, PT x → Φ e → Ψ (T.named 2 o x [e])
  up : ∀ t, Ψ t → Φ t
  all : ∀ k x n e o, k = 7 ∨ k = 8 → NM x → NB n → Φ e → Φ (.mk k x [] n 0 0 false [e] o)
  cond : ∀ a b c o, Φ a → Φ b → Φ c → Φ (T.of 6 o [a, b, c])
  bin : ∀ x a b o, 0 < level x → Φ a → Φ b → Φ (T.named 5 o x [a, b])
  not : ∀ a o, Φ a → Φ (T.of 4 o [a])
  old : ∀ a o, Ψ a → Φ (T.of 3 o [a])
/-- what a state must give for names, paths, numbers -/
structure EI (I : St → Prop) (NM PT : Str → Prop) (NB : Int → Prop) (E : Nat) : Prop where
  suf : ∀ s s1, I s → s1.toks <:+ s.toks → I s1
  name : ∀ s x s1, I s → name E s = .ok x s1 → NM x
  path : ∀ s x s1, I s → path E s = .ok x s1 → PT x
  num : ∀ s x s1, I s → number E s = .ok x s1 → NB x
theorem run_rules {Φ Ψ : T → Prop} {NM PT : Str → Prop} {NB : Int → Prop} {I : St → Prop} (R : ER Φ Ψ NM PT NB) (J : EI I NM PT NB E) :
    ∀ (k : Nat) (q : P) {s s1 : St} {t : T}, I s → Lv1 q → (match q with | .loop _ _ n => Φ n | _ => True) → run E k q s = .ok t s1 → (match q with | .ref => Ψ t | _ => Φ t)
  | 0, q, s, s1, t, hI, hq, hn, h => by rw [run] at h; exact (wrong_ok h).elim
  | k + 1, .expr, s, s1, t, hI, hq, hn, h => by
    rw [run] at h
    split at h
    · obtain ⟨a1, s1, e1, h⟩ := bind_inv h
      obtain ⟨a2, s2, e2, h⟩ := bind_inv h
      obtain ⟨a3, s3, e3, h⟩ := bind_inv h
      obtain ⟨a4, s4, e4, h⟩ := bind_inv h
      obtain ⟨a5, s5, e5, h⟩ := bind_inv h
      cases h
      have i0 := J.suf _ _ hI (suf_rest s)
      have i1 := J.suf _ _ i0 (by have := suf_name (E := E) (rest s); rw [e1] at this; exact this)
      have i2 := J.suf _ _ i1 (by have := suf_expect (E := E) [60] s1; rw [e2] at this; exact this)
      have i3 := J.suf _ _ i2 (by have := suf_number (E := E) s2; rw [e3] at this; exact this)
      have i4 := J.suf _ _ i3 (by have := suf_expect (E := E) [58] s3; rw [e4] at this; exact this)
      have h5 : Φ a5 := run_rules R J k .expr i4 trivial trivial e5
      refine R.all _ _ _ _ _ ?_ (J.name _ _ _ i0 e1) (J.num _ _ _ i2 e3) h5
      split
      · exact .inl rfl
      · exact .inr rfl
    · exact run_rules R J k .cond hI trivial trivial h
  | k + 1, .cond, s, s1, t, hI, hq, hn, h => by
    rw [run] at h
    obtain ⟨a1, s1, e1, h⟩ := bind_inv h
    have h1 : Φ a1 := run_rules R J k (.bin 1) hI (show (1 : Int) ≤ 1 by decide) trivial e1
    split at h
    · obtain ⟨a2, s2, e2, h⟩ := bind_inv h
      obtain ⟨a3, s3, e3, h⟩ := bind_inv h
      obtain ⟨a4, s4, e4, h⟩ := bind_inv h
      cases h
      have i1 := J.suf _ _ hI (by have := suf_run (E := E) k (.bin 1) s; rw [e1] at this; exact this)
      have i1r := J.suf _ _ i1 (suf_rest s1)
      have i2 := J.suf _ _ i1r (by have := suf_run (E := E) k .cond (rest s1); rw [e2] at this; exact this)
      have i3 := J.suf _ _ i2 (by have := suf_expect (E := E) [58] s2; rw [e3] at this; exact this)
      exact R.cond _ _ _ _ h1 (run_rules R J k .cond i1r trivial trivial e2) (run_rules R J k .cond i3 trivial trivial e4)
    · cases h
      exact h1
  | k + 1, .bin l, s, s1, t, hI, hq, hn, h => by
    rw [run] at h
    obtain ⟨a1, s1, e1, h⟩ := bind_inv h
    have h1 : Φ a1 := run_rules R J k .unary hI trivial trivial e1
    have i1 := J.suf _ _ hI (by have := suf_run (E := E) k .unary s; rw [e1] at this; exact this)
    exact run_rules R J k (.loop l 9 a1) i1 hq h1 h
  | k + 1, .loop l m n, s, s1, t, hI, hq, hn, h => by
    rw [run] at h
    split at h
    · cases h; exact hn
    · rename_i hc
      have h1 : 1 ≤ l := hq
      have hl1 : 1 ≤ leastOnTheRight (level (text E s)) := lor_pos (by omega)
      obtain ⟨a1, s1, e1, h⟩ := bind_inv h
      have i0 := J.suf _ _ hI (suf_rest s)
      have h2 : Φ a1 := run_rules R J k (.bin _) i0 hl1 trivial e1
      have i1 := J.suf _ _ i0 (by have := suf_run (E := E) k (.bin (leastOnTheRight (level (text E s)))) (rest s); rw [e1] at this; exact this)
      exact run_rules R J k (.loop l (mostAfter (level (text E s))) (T.named 5 (offOf E s) (text E s) [n, a1])) i1 hq (R.bin _ _ _ _ (by omega) hn h2) h
  | k + 1, .unary, s, s1, t, hI, hq, hn, h => by
    rw [run] at h
    have i0 := J.suf _ _ hI (suf_rest s)
    split at h
    · obtain ⟨a1, s1, e1, h⟩ := bind_inv h
      cases h
      exact R.not _ _ (run_rules R J k .unary i0 trivial trivial e1)
    · split at h
      · obtain ⟨a1, s1, e1, h⟩ := bind_inv h
        obtain ⟨a2, s2, e2, h⟩ := bind_inv h
        obtain ⟨a3, s3, e3, h⟩ := bind_inv h
        cases h
        have i1 := J.suf _ _ i0 (by have := suf_expect (E := E) [40] (rest s); rw [e1] at this; exact this)
        exact R.old _ _ (run_rules R J k .ref i1 trivial trivial e2)
      · split at h
        · obtain ⟨a1, s1, e1, h⟩ := bind_inv h
          obtain ⟨a2, s2, e2, h⟩ := bind_inv h
          cases h
          exact run_rules R J k .expr i0 trivial trivial e1
        · split at h
          · unfold numeral at h
            obtain ⟨a1, s1, e1, h⟩ := bind_inv h
            cases h
            exact R.num _ _ (J.num _ _ _ hI e1)
          · exact R.up _ (run_rules R J k .ref hI trivial trivial h)
  | k + 1, .ref, s, s1, t, hI, hq, hn, h => by
    rw [run] at h
    obtain ⟨a1, s1, e1, h⟩ := bind_inv h
    unfold pvar at e1
    obtain ⟨x, s2, e2, e3⟩ := bind_inv e1
    cases e3
    have i1 := J.suf _ _ hI (by have := suf_path (E := E) s; rw [e2] at this; exact this)
    have hx := J.path _ _ _ hI e2
    split at h
    · obtain ⟨a3, s3, e3, h⟩ := bind_inv h
      obtain ⟨a4, s4, e4, h⟩ := bind_inv h
      cases h
      exact R.idx _ _ _ hx (run_rules R J k .expr (J.suf _ _ i1 (suf_rest _)) trivial trivial e3)
    · cases h
      exact R.ref _ _ hx

theorem er_ni : ER NI NI (fun _ => True) (fun _ => True) (fun _ => True) where
  num _ _ _ := ni_mk rfl nil_nil
  ref _ _ _ := ni_mk rfl nil_nil
  idx _ _ _ _ h := ni_mk rfl (nil_cons h nil_nil)
  up _ h := h
  all k _ _ _ _ hk _ _ h := ni_mk (by rcases hk with rfl | rfl <;> rfl) (nil_cons h nil_nil)
  cond _ _ _ _ h1 h2 h3 := ni_mk rfl (nil_cons h1 (nil_cons h2 (nil_cons h3 nil_nil)))
  bin _ _ _ _ _ h1 h2 := ni_mk rfl (nil_cons h1 (nil_cons h2 nil_nil))
  not _ _ h := ni_mk rfl (nil_cons h nil_nil)
  old _ _ h := ni_mk rfl (nil_cons h nil_nil)
theorem ei_true : EI (fun _ => True) (fun _ => True) (fun _ => True) (fun _ => True) E := ⟨fun _ _ _ _ => trivial, fun _ _ _ _ _ => trivial, fun _ _ _ _ _ => trivial, fun _ _ _ _ _ => trivial⟩
theorem expr_ni {s s1 : St} {t : T} (h : expr E s = .ok t s1) : NI t := run_rules er_ni ei_true _ .expr trivial trivial trivial h
theorem refr_ni {s s1 : St} {t : T} (h : refr E s = .ok t s1) : NI t := run_rules er_ni ei_true _ .ref trivial trivial trivial h
end Go.Proofs.YtbgpboiblggmiaaGreatDoor.Px
