/-
  Trees have at most twice as many nodes as tokens were read for them.
-/
import Derived.Test.YtbgpboiblggmiaaGreatDoorBaseP
set_option linter.unusedVariables false
set_option linter.unusedSimpArgs false
namespace Go.Proofs.YtbgpboiblggmiaaGreatDoor.Px
open Lx (Tok)
variable {E : Nat}

theorem wrong_ok {α : Type} {s s1 : St} {a : α} (h : (wrong E s : Res α) = .ok a s1) : False := by unfold wrong at h; cases h
/-- a tree that was read, with room: c tokens more at least -/
def Sz (c : Nat) (r : Res T) (s : St) : Prop := ∀ t s1, r = .ok t s1 → size t + 2 * left s1 + c ≤ 2 * left s
def SzL (c : Nat) (r : Res (List T)) (s : St) (l : List T) : Prop := ∀ m s1, r = .ok m s1 → sizes m + 2 * left s1 + c ≤ 2 * left s + sizes l
theorem sizes_snoc (t : T) : ∀ l : List T, sizes (l ++ [t]) = sizes l + size t
  | [] => by simp [sizes]
  | a :: l => by rw [List.cons_append, sizes, sizes_snoc t l, sizes]; omega
theorem sizes_tail (l : List T) : sizes l.tail ≤ sizes l := by
  cases l with
  | nil => exact Nat.le_refl _
  | cons t r => rw [List.tail_cons, sizes]; omega
theorem sizes_of (k o : Int) (l : List T) : size (T.of k o l) = 1 + sizes l := by unfold T.of; rw [size]
theorem sizes_named (k o : Int) (x : Str) (l : List T) : size (T.named k o x l) = 1 + sizes l := by unfold T.named; rw [size]
theorem sizes_mk (k : Int) (x y : Str) (n l i : Int) (g : Bool) (m : List T) (o : Int) : size (.mk k x y n l i g m o) = 1 + sizes m := by rw [size]
theorem sizes_one (t : T) : sizes [t] = size t := by rw [sizes, sizes]; rfl
theorem sizes_two (t u : T) : sizes [t, u] = size t + size u := by rw [sizes, sizes_one]
theorem sizes_three (t u v : T) : sizes [t, u, v] = size t + (size u + size v) := by rw [sizes, sizes_two]
theorem sizes_four (t u v w : T) : sizes [t, u, v, w] = size t + (size u + (size v + size w)) := by rw [sizes, sizes_three]
theorem sizes_nil : sizes [] = 0 := by rw [sizes]
theorem size_none (o : Int) : size (none o) = 1 := by unfold none; rw [sizes_of, sizes_nil]
theorem path_left1 {s s2 : St} {a : Str} (h : path E s = .ok a s2) : left s2 + 1 ≤ left s := path_left h
theorem length_left {s s2 : St} {a : Int} (h : length E s = .ok a s2) : left s2 + 1 = left s := by
  unfold length at h
  split at h
  · cases h
  · exact number_left h
theorem rest_le (s : St) : left (rest s) ≤ left s := (suf_rest s).length_le
theorem pos_left {x : Str} {s : St} (hc : accepts E x s = true) (hx : x ≠ []) : left (rest s) + 1 = left s := acc_left hc hx

def Lv1 : P → Prop
  | .bin l => 1 ≤ l
  | .loop l _ _ => 1 ≤ l
  | _ => True
theorem run_size : ∀ (k : Nat) (q : P) {s s1 : St} {t : T}, Lv1 q → run E k q s = .ok t s1 → size t + 2 * left s1 + (match q with | .loop _ _ _ => 0 | _ => 1) ≤ 2 * left s + (match q with | .loop _ _ n => size n | _ => 0)
  | 0, q, s, s1, t, hq, h => by rw [run] at h; exact (wrong_ok h).elim
  | k + 1, .expr, s, s1, t, hq, h => by
    rw [run] at h
    split at h
    · rename_i hc
      have h0 : left (rest s) + 1 = left s := by
        rcases hc with hc | hc
        · exact acc_left hc (by decide)
        · exact acc_left hc (by decide)
      obtain ⟨a1, s1, e1, h⟩ := bind_inv h
      obtain ⟨a2, s2, e2, h⟩ := bind_inv h
      obtain ⟨a3, s3, e3, h⟩ := bind_inv h
      obtain ⟨a4, s4, e4, h⟩ := bind_inv h
      obtain ⟨a5, s5, e5, h⟩ := bind_inv h
      cases h
      have := name_left e1
      have := expect_left e2 (by decide)
      have := number_left e3
      have := expect_left e4 (by decide)
      have := run_size k _ (by first | exact trivial | exact hq | exact hl1 | (show (1 : Int) ≤ 1; decide)) e5
      simp only at *
      rw [sizes_mk, sizes_one]
      omega
    · exact run_size k _ (by first | exact trivial | exact hq | exact hl1 | decide) h
  | k + 1, .cond, s, s1, t, hq, h => by
    rw [run] at h
    obtain ⟨a1, s1, e1, h⟩ := bind_inv h
    have h1 := run_size k _ (by first | exact trivial | exact hq | exact hl1 | (show (1 : Int) ≤ 1; decide)) e1
    simp only at h1
    split at h
    · rename_i hc
      have h0 := acc_left hc (by decide)
      obtain ⟨a2, s2, e2, h⟩ := bind_inv h
      obtain ⟨a3, s3, e3, h⟩ := bind_inv h
      obtain ⟨a4, s4, e4, h⟩ := bind_inv h
      cases h
      have := run_size k _ (by first | exact trivial | exact hq | exact hl1 | (show (1 : Int) ≤ 1; decide)) e2
      have := expect_left e3 (by decide)
      have := run_size k _ (by first | exact trivial | exact hq | exact hl1 | (show (1 : Int) ≤ 1; decide)) e4
      simp only at *
      rw [sizes_of, sizes_three]
      omega
    · cases h
      simp only
      omega
  | k + 1, .bin l, s, s1, t, hq, h => by
    rw [run] at h
    obtain ⟨a1, s1, e1, h⟩ := bind_inv h
    have h1 := run_size k _ (by first | exact trivial | exact hq | exact hl1 | (show (1 : Int) ≤ 1; decide)) e1
    have h2 := run_size k _ (by first | exact trivial | exact hq | exact hl1 | decide) h
    simp only at *
    omega
  | k + 1, .loop l m n, s, s1, t, hq, h => by
    rw [run] at h
    split at h
    · cases h; simp only; omega
    · by_cases ht : text E s = []
      · exfalso
        rename_i hc
        rw [ht] at hc
        have h1 : 1 ≤ l := hq
        exact hc (.inl (by rw [show level [] = 0 from by decide]; omega))
      · have h0 := text_left ht
        rename_i hc
        have h1 : 1 ≤ l := hq
        have hl1 : 1 ≤ leastOnTheRight (level (text E s)) := lor_pos (by omega)
        obtain ⟨a1, s1, e1, h⟩ := bind_inv h
        have h1 := run_size k _ (by first | exact trivial | exact hq | exact hl1 | (show (1 : Int) ≤ 1; decide)) e1
        have h2 := run_size k _ (by first | exact trivial | exact hq | exact hl1 | decide) h
        simp only at *
        rw [sizes_named, sizes_two] at h2
        omega
  | k + 1, .unary, s, s1, t, hq, h => by
    rw [run] at h
    split at h
    · rename_i hc
      have h0 := acc_left hc (by decide)
      obtain ⟨a1, s1, e1, h⟩ := bind_inv h
      cases h
      have h1 := run_size k _ (by first | exact trivial | exact hq | exact hl1 | (show (1 : Int) ≤ 1; decide)) e1
      simp only at *
      rw [sizes_of, sizes_one]
      omega
    · split at h
      · rename_i hc
        have h0 := acc_left hc (by decide)
        obtain ⟨a1, s1, e1, h⟩ := bind_inv h
        obtain ⟨a2, s2, e2, h⟩ := bind_inv h
        obtain ⟨a3, s3, e3, h⟩ := bind_inv h
        cases h
        have := expect_left e1 (by decide)
        have := run_size k _ (by first | exact trivial | exact hq | exact hl1 | (show (1 : Int) ≤ 1; decide)) e2
        have := expect_left e3 (by decide)
        simp only at *
        rw [sizes_of, sizes_one]
        omega
      · split at h
        · rename_i hc
          have h0 := acc_left hc (by decide)
          obtain ⟨a1, s1, e1, h⟩ := bind_inv h
          obtain ⟨a2, s2, e2, h⟩ := bind_inv h
          cases h
          have := run_size k _ (by first | exact trivial | exact hq | exact hl1 | (show (1 : Int) ≤ 1; decide)) e1
          have := expect_left e2 (by decide)
          simp only at *
          omega
        · split at h
          · unfold numeral at h
            obtain ⟨a1, s1, e1, h⟩ := bind_inv h
            cases h
            have := number_left e1
            simp only
            rw [sizes_mk, sizes_nil]
            omega
          · exact run_size k _ (by first | exact trivial | exact hq | exact hl1 | decide) h
  | k + 1, .ref, s, s1, t, hq, h => by
    rw [run] at h
    obtain ⟨a1, s1, e1, h⟩ := bind_inv h
    have h1 := pvar_left e1
    have h2 : size a1 = 1 := by
      unfold pvar at e1
      obtain ⟨x, s2, e2, e3⟩ := bind_inv e1
      cases e3
      rw [sizes_named, sizes_nil]
    split at h
    · rename_i hc
      have h0 := acc_left hc (by decide)
      obtain ⟨a2, s2, e2, h⟩ := bind_inv h
      obtain ⟨a3, s3, e3, h⟩ := bind_inv h
      cases h
      have := run_size k _ (by first | exact trivial | exact hq | exact hl1 | (show (1 : Int) ≤ 1; decide)) e2
      have := expect_left e3 (by decide)
      simp only at *
      rw [sizes_named, sizes_one]
      omega
    · cases h
      simp only
      omega
end Go.Proofs.YtbgpboiblggmiaaGreatDoor.Px
