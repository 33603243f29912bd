/-
  Trees of statements, declarations and units: how many nodes.
-/
import Derived.Test.YtbgpboiblggmiaaGreatDoorSza
set_option linter.unusedVariables false
set_option linter.unusedSimpArgs false
namespace Go.Proofs.YtbgpboiblggmiaaGreatDoor.Px
open Lx (Tok)
variable {E : Nat}

/-- a part's tree has room -/
def Room (c : Nat) (rd : St → Res T) : Prop := ∀ s t s1, rd s = .ok t s1 → size t + 2 * left s1 + c ≤ 2 * left s
theorem expr_size : Room 1 (expr E) := fun s t s1 h => run_size _ .expr trivial h
theorem refr_size : Room 1 (refr E) := fun s t s1 h => run_size _ .ref trivial h
theorem pvar_size : Room 1 (pvar E) := fun s t s1 h => by
  have h1 := pvar_left h
  unfold pvar at h
  obtain ⟨a1, s1, e1, h⟩ := bind_inv h
  cases h
  rw [sizes_named, sizes_nil]
  omega
theorem numeral_size : Room 1 (numeral E) := fun s t s1 h => by
  unfold numeral at h
  obtain ⟨a1, s1, e1, h⟩ := bind_inv h
  cases h
  have := number_left e1
  rw [sizes_mk, sizes_nil]
  omega
theorem sepGo_size {part : St → Res T} (hp : Room 1 part) : ∀ (k : Nat) (l : List T) {s s1 : St} {m : List T}, sepGo E part k l s = .ok m s1 → sizes m + 2 * left s1 ≤ 2 * left s + sizes l
  | 0, l, s, s1, m, h => by rw [sepGo] at h; cases h; omega
  | k + 1, l, s, s1, m, h => by
    rw [sepGo] at h
    split at h
    · rename_i hc
      have := acc_left hc (by decide)
      obtain ⟨a1, s1, e1, h⟩ := bind_inv h
      have h1 := hp _ _ _ e1
      have h2 := sepGo_size hp k _ h
      rw [sizes_snoc] at h2
      omega
    · cases h; omega
theorem separated_size {part : St → Res T} (hp : Room 1 part) {s s1 : St} {m : List T} (h : separated E part s = .ok m s1) : sizes m + 2 * left s1 + 1 ≤ 2 * left s := by
  unfold separated at h
  obtain ⟨a1, s1, e1, h⟩ := bind_inv h
  have h1 := hp _ _ _ e1
  have h2 := sepGo_size hp _ _ h
  rw [sizes_one] at h2
  omega
theorem tuple_size {part : St → Res T} (hp : Room 1 part) {s s1 : St} {m : List T} (h : tuple E part s = .ok m s1) : sizes m + 2 * left s1 + 2 ≤ 2 * left s := by
  unfold tuple at h
  obtain ⟨a1, s1, e1, h⟩ := bind_inv h
  have := expect_left e1 (by decide)
  split at h
  · rename_i hc
    have := acc_left hc (by decide)
    cases h
    rw [sizes_nil]
    omega
  · obtain ⟨a2, s2, e2, h⟩ := bind_inv h
    obtain ⟨a3, s3, e3, h⟩ := bind_inv h
    cases h
    have := separated_size hp e2
    have := expect_left e3 (by decide)
    omega
theorem assign_size {l : List T} {s s1 : St} {m : List T} (h : assign E l s = .ok m s1) : sizes m + 2 * left s1 + 2 ≤ 2 * left s + sizes l := by
  unfold assign at h
  obtain ⟨a1, s1, e1, h⟩ := bind_inv h
  obtain ⟨a2, s2, e2, h⟩ := bind_inv h
  obtain ⟨a3, s3, e3, h⟩ := bind_inv h
  cases h
  have := refr_size _ _ _ e1
  have := expect_left e2 (by decide)
  have := expr_size _ _ _ e3
  rw [show l ++ [a1, a3] = (l ++ [a1]) ++ [a3] by simp, sizes_snoc, sizes_snoc]
  omega
theorem assignsGo_size : ∀ (k : Nat) (l : List T) {s s1 : St} {m : List T}, assignsGo E k l s = .ok m s1 → sizes m + 2 * left s1 ≤ 2 * left s + sizes l
  | 0, l, s, s1, m, h => by rw [assignsGo] at h; cases h; omega
  | k + 1, l, s, s1, m, h => by
    rw [assignsGo] at h
    split at h
    · rename_i hc
      have := acc_left hc (by decide)
      obtain ⟨a1, s1, e1, h⟩ := bind_inv h
      have h1 := assign_size e1
      have h2 := assignsGo_size k _ h
      omega
    · cases h; omega
theorem assigns_size {l : List T} {s s1 : St} {m : List T} (h : assigns E l s = .ok m s1) : sizes m + 2 * left s1 + 2 ≤ 2 * left s + sizes l := by
  unfold assigns at h
  obtain ⟨a1, s1, e1, h⟩ := bind_inv h
  have h1 := assign_size e1
  have h2 := assignsGo_size _ _ h
  omega
theorem withs_size {l : List T} {s s1 : St} {m : List T} (h : withs E l s = .ok m s1) : sizes m + 2 * left s1 ≤ 2 * left s + sizes l := by
  unfold withs at h
  split at h
  · rename_i hc
    have := acc_left hc (by decide)
    have := assigns_size h
    omega
  · cases h; omega
theorem claim_size (q : Int) {s s1 : St} {t : T} (h : claim E q s = .ok t s1) : size t + 2 * left s1 ≤ 2 * left s := by
  unfold claim at h
  obtain ⟨a1, s1, e1, h⟩ := bind_inv h
  obtain ⟨a2, s2, e2, h⟩ := bind_inv h
  cases h
  have := expr_size _ _ _ e1
  have := expect_left e2 (by decide)
  have := rest_le s
  rw [sizes_of, sizes_one]
  omega
theorem bare_size (q : Int) {s s1 : St} {t : T} (h : bare E q s = .ok t s1) : size t + 2 * left s1 ≤ 2 * left s := by
  unfold bare at h
  obtain ⟨a1, s1, e1, h⟩ := bind_inv h
  cases h
  have := expect_left e1 (by decide)
  have := rest_le s
  rw [sizes_of, sizes_nil]
  omega
theorem named_size (q : Int) {m : St → Res Str} (hm : ∀ s, Suf (m s) s) {s s1 : St} {t : T} (h : named E q m s = .ok t s1) : size t + 2 * left s1 ≤ 2 * left s := by
  unfold named at h
  obtain ⟨a1, s1, e1, h⟩ := bind_inv h
  obtain ⟨a2, s2, e2, h⟩ := bind_inv h
  cases h
  have := suf_left (hm _) e1
  have := expect_left e2 (by decide)
  have := rest_le s
  rw [sizes_named, sizes_nil]
  omega
theorem accepted_le (x : Str) (s : St) : left (accepted E x s) ≤ left s := (accepted_suf x s).length_le
theorem assignment_size {s s1 : St} {t : T} (h : assignment E s = .ok t s1) : size t + 2 * left s1 ≤ 2 * left s := by
  unfold assignment at h
  obtain ⟨a1, s1, e1, h⟩ := bind_inv h
  obtain ⟨a2, s2, e2, h⟩ := bind_inv h
  obtain ⟨a3, s3, e3, h⟩ := bind_inv h
  cases h
  have := assign_size e1
  have := withs_size e2
  have := expect_left e3 (by decide)
  have := accepted_le (E := E) [114, 101, 108, 101, 97, 115, 101] s
  rw [sizes_nil] at *
  rw [sizes_mk]
  omega
theorem cas_size {s s1 : St} {t : T} (h : cas E s = .ok t s1) : size t + 2 * left s1 ≤ 2 * left s := by
  unfold cas at h
  obtain ⟨a1, s1, e1, h⟩ := bind_inv h
  obtain ⟨a2, s2, e2, h⟩ := bind_inv h
  obtain ⟨a3, s3, e3, h⟩ := bind_inv h
  obtain ⟨a4, s4, e4, h⟩ := bind_inv h
  obtain ⟨a5, s5, e5, h⟩ := bind_inv h
  obtain ⟨a6, s6, e6, h⟩ := bind_inv h
  obtain ⟨a7, s7, e7, h⟩ := bind_inv h
  obtain ⟨a8, s8, e8, h⟩ := bind_inv h
  obtain ⟨a9, s9, e9, h⟩ := bind_inv h
  cases h
  have := refr_size _ _ _ e1
  have := expect_left e2 (by decide)
  have := expr_size _ _ _ e3
  have := expect_left e4 (by decide)
  have := expr_size _ _ _ e5
  have := expect_left e6 (by decide)
  have := refr_size _ _ _ e7
  have h8 := withs_size e8
  have := expect_left e9 (by decide)
  have := rest_le s
  rw [sizes_four] at h8
  rw [sizes_of]
  omega
theorem call_size {s s1 : St} {t : T} (h : call E s = .ok t s1) : size t + 2 * left s1 ≤ 2 * left s := by
  unfold call at h
  obtain ⟨a1, s1, e1, h⟩ := bind_inv h
  obtain ⟨a2, s2, e2, h⟩ := bind_inv h
  obtain ⟨a3, s3, e3, h⟩ := bind_inv h
  cases h
  have := path_left1 e1
  have := tuple_size expr_size e2
  have := expect_left e3 (by decide)
  have := rest_le s
  rw [sizes_named]
  omega
theorem typed_left {s s1 : St} {a : Str × Int} (h : typed E s = .ok a s1) : left s1 + 3 ≤ left s := by
  unfold typed at h
  obtain ⟨a1, s1, e1, h⟩ := bind_inv h
  obtain ⟨a2, s2, e2, h⟩ := bind_inv h
  obtain ⟨a3, s3, e3, h⟩ := bind_inv h
  cases h
  have := name_left e1
  have := expect_left e2 (by decide)
  have := number_left e3
  omega
theorem plocal_size {s s1 : St} {t : T} (h : plocal E s = .ok t s1) : size t + 2 * left s1 ≤ 2 * left s := by
  unfold plocal at h
  obtain ⟨a1, s1, e1, h⟩ := bind_inv h
  obtain ⟨a2, s2, e2, h⟩ := bind_inv h
  obtain ⟨a3, s3, e3, h⟩ := bind_inv h
  cases h
  have := expect_left e1 (by decide)
  have := typed_left e2
  have := expect_left e3 (by decide)
  have := accepted_le (E := E) [103, 104, 111, 115, 116] s
  rw [sizes_mk, sizes_nil]
  omega
theorem field_size : Room 0 (field E) := fun s t s1 h => by
  unfold field at h
  obtain ⟨a1, s1, e1, h⟩ := bind_inv h
  obtain ⟨a2, s2, e2, h⟩ := bind_inv h
  cases h
  have := typed_left e1
  have := expect_left e2 (by decide)
  rw [sizes_mk, sizes_nil]
  omega
theorem param_size : Room 1 (param E) := fun s t s1 h => by
  unfold param at h
  obtain ⟨a1, s1, e1, h⟩ := bind_inv h
  cases h
  have := typed_left e1
  rw [sizes_mk, sizes_nil]
  omega
theorem atomic_size {s s1 : St} {t : T} (hr : left (rest s) + 1 = left s) (h : atomic E s = .ok t s1) : size t + 2 * left s1 ≤ 2 * left s := by
  unfold atomic at h
  obtain ⟨a1, s1, e1, h⟩ := bind_inv h
  obtain ⟨a2, s2, e2, h⟩ := bind_inv h
  obtain ⟨a3, s3, e3, h⟩ := bind_inv h
  obtain ⟨a4, s4, e4, h⟩ := bind_inv h
  obtain ⟨a5, s5, e5, h⟩ := bind_inv h
  cases h
  have := expect_left e1 (by decide)
  have h2 : sizes a2 + 2 * left s2 ≤ 2 * left s1 + 1 := by
    split at e2
    · cases e2
      rw [sizes_one, size_none]
      show 1 + 2 * left s1 ≤ _
      omega
    · have := assigns_size e2
      rw [sizes_one, size_none] at this
      have e : left { s1 with braces := 1 } = left s1 := rfl
      omega
  have := expect_left e3 (by decide)
  have h4 : sizes a4 + 2 * left s4 ≤ sizes a2 + 2 * left s3 := by
    split at e4
    · rename_i hc
      have := acc_left hc (by decide)
      obtain ⟨g, s5, e5, e6⟩ := bind_inv e4
      cases e6
      have := expr_size _ _ _ e5
      have e : left (rest { s3 with braces := 0 }) = left (rest s3) := rfl
      have := sizes_tail a2
      rw [sizes]
      omega
    · cases e4
      exact Nat.le_refl _
  have := expect_left e5 (by decide)
  rw [sizes_of]
  omega

theorem listGo_size {rd : St → Res T} (h0 : Room 0 rd) (ht : Takes rd) : ∀ (k : Nat) (l : List T) {s s1 : St} {m : List T}, listGo E rd k l s = .ok m s1 → sizes m + 2 * left s1 + 2 ≤ 2 * left s + sizes l
  | 0, l, s, s1, m, h => by rw [listGo] at h; exact (wrong_ok h).elim
  | k + 1, l, s, s1, m, h => by
    rw [listGo] at h
    split at h
    · rename_i hc
      have := acc_left hc (by decide)
      cases h
      omega
    · rename_i hc
      cases hs : s.toks with
      | nil => rw [hs] at h; exact (wrong_ok h).elim
      | cons t r =>
        rw [hs] at h
        simp only at h
        have h1 := listGo_size h0 ht k _ h
        have h2 : sizes (more l (item rd true s).1) + 2 * left (item rd true s).2 ≤ 2 * left s + sizes l := by
          have h3 := item_left (E := E) ht (b := true) (s := s) (by rw [hs]; simp) (.inr (by simpa using hc))
          unfold item at h3 ⊢
          cases hr : rd s with
          | ok t s2 =>
            have := h0 _ _ _ hr
            simp only [more]
            rw [sizes_snoc]
            omega
          | bad d s2 =>
            rw [hr] at h3
            simp only [more] at h3 ⊢
            omega
        omega
theorem list_size {rd : St → Res T} (h0 : Room 0 rd) (ht : Takes rd) {s s1 : St} {m : List T} (h : list E rd s = .ok m s1) : sizes m + 2 * left s1 + 4 ≤ 2 * left s := by
  unfold list at h
  obtain ⟨a1, s1, e1, h⟩ := bind_inv h
  have := expect_left e1 (by decide)
  have := listGo_size h0 ht _ _ h
  rw [sizes_nil] at this
  omega
theorem block_size {rd : St → Res T} (h0 : Room 0 rd) (ht : Takes rd) {s s1 : St} {t : T} (h : block E rd s = .ok t s1) : size t + 2 * left s1 + 3 ≤ 2 * left s := by
  unfold block at h
  obtain ⟨a1, s1, e1, h⟩ := bind_inv h
  cases h
  have := list_size h0 ht e1
  rw [sizes_of]
  omega
theorem branch_size {rd : St → Res T} (h0 : Room 0 rd) (ht : Takes rd) {s s9 : St} {t : T} (h : branch E rd s = .ok t s9) : size t + 2 * left s9 ≤ 2 * left s := by
  unfold branch at h
  obtain ⟨a1, s1, e1, h⟩ := bind_inv h
  obtain ⟨a2, s2, e2, h⟩ := bind_inv h
  obtain ⟨a3, s3, e3, h⟩ := bind_inv h
  cases h
  have := expr_size _ _ _ e1
  have := block_size h0 ht e2
  have := rest_le s
  have h3 : size a3 + 2 * left s9 ≤ 2 * left s2 + 1 := by
    split at e3
    · rename_i hc
      have := acc_left hc (by decide)
      have := block_size h0 ht e3
      omega
    · cases e3
      rw [sizes_of, sizes_nil]
      omega
  rw [sizes_of, sizes_three]
  omega
theorem loop_size {rd : St → Res T} (h0 : Room 0 rd) (ht : Takes rd) {s s1 : St} {t : T} (h : loop E rd s = .ok t s1) : size t + 2 * left s1 ≤ 2 * left s := by
  unfold loop at h
  obtain ⟨a1, s1, e1, h⟩ := bind_inv h
  obtain ⟨a2, s2, e2, h⟩ := bind_inv h
  obtain ⟨a3, s3, e3, h⟩ := bind_inv h
  cases h
  have := expr_size _ _ _ e1
  have := block_size h0 ht e3
  have := rest_le s
  have h3 : size a2 + 2 * left s2 ≤ 2 * left s1 + 1 := by
    split at e2
    · rename_i hc
      have := acc_left hc (by decide)
      have := expr_size _ _ _ e2
      omega
    · cases e2
      rw [size_none]
      omega
  rw [sizes_of, sizes_three]
  omega
theorem statement_size : ∀ k, Room 0 (statement E k)
  | 0 => fun s t s1 h => by rw [statement] at h; exact (wrong_ok h).elim
  | k + 1 => fun s t s1 h => by
    rw [statement] at h
    by_cases hc : accepts E [97, 115, 115, 101, 114, 116] s = true
    · rw [if_pos hc] at h; exact claim_size _ h
    rw [if_neg hc] at h
    clear hc
    by_cases hc : accepts E [97, 119, 97, 105, 116] s = true
    · rw [if_pos hc] at h; exact claim_size _ h
    rw [if_neg hc] at h
    clear hc
    by_cases hc : accepts E [102, 101, 110, 99, 101] s = true
    · rw [if_pos hc] at h; exact bare_size _ h
    rw [if_neg hc] at h
    clear hc
    by_cases hc : accepts E [115, 107, 105, 112] s = true
    · rw [if_pos hc] at h; exact bare_size _ h
    rw [if_neg hc] at h
    clear hc
    by_cases hc : accepts E [97, 116, 111, 109, 105, 99] s = true
    · rw [if_pos hc] at h; exact atomic_size (acc_left hc (by decide)) h
    rw [if_neg hc] at h
    clear hc
    by_cases hc : accepts E [99, 97, 115] s = true
    · rw [if_pos hc] at h; exact cas_size h
    rw [if_neg hc] at h
    clear hc
    by_cases hc : accepts E [97, 99, 113, 117, 105, 114, 101] s = true
    · rw [if_pos hc] at h; exact named_size _ suf_path h
    rw [if_neg hc] at h
    clear hc
    by_cases hc : accepts E [102, 114, 101, 101] s = true
    · rw [if_pos hc] at h; exact named_size _ suf_path h
    rw [if_neg hc] at h
    clear hc
    by_cases hc : accepts E [115, 112, 97, 119, 110] s = true
    · rw [if_pos hc] at h; exact named_size _ suf_name h
    rw [if_neg hc] at h
    clear hc
    by_cases hc : accepts E [106, 111, 105, 110] s = true
    · rw [if_pos hc] at h; exact named_size _ suf_name h
    rw [if_neg hc] at h
    clear hc
    by_cases hc : accepts E [105, 102] s = true
    · rw [if_pos hc] at h; exact branch_size (statement_size k) (takes_statement k) h
    rw [if_neg hc] at h
    clear hc
    by_cases hc : accepts E [119, 104, 105, 108, 101] s = true
    · rw [if_pos hc] at h; exact loop_size (statement_size k) (takes_statement k) h
    rw [if_neg hc] at h
    clear hc
    by_cases hc : accepts E [99, 97, 108, 108] s = true
    · rw [if_pos hc] at h; exact call_size h
    rw [if_neg hc] at h
    clear hc
    by_cases hc : accepts E [103, 104, 111, 115, 116] s = true ∨ accepts E [108, 111, 99, 97, 108] s = true
    · rw [if_pos hc] at h; exact plocal_size h
    · rw [if_neg hc] at h; exact assignment_size h
theorem stmt_size : Room 0 (stmt E) := fun s => statement_size _ s
theorem record_size {s s1 : St} {t : T} (h : record E s = .ok t s1) : size t + 2 * left s1 ≤ 2 * left s := by
  unfold record at h
  obtain ⟨a1, s1, e1, h⟩ := bind_inv h
  obtain ⟨a2, s2, e2, h⟩ := bind_inv h
  cases h
  have := name_left e1
  have := list_size field_size takes_field e2
  have := rest_le s
  rw [sizes_named]
  omega
theorem lock_size {s s1 : St} {t : T} (h : lock E s = .ok t s1) : size t + 2 * left s1 ≤ 2 * left s := by
  unfold lock at h
  obtain ⟨a1, s1, e1, h⟩ := bind_inv h
  obtain ⟨a2, s2, e2, h⟩ := bind_inv h
  obtain ⟨a3, s3, e3, h⟩ := bind_inv h
  obtain ⟨a4, s4, e4, h⟩ := bind_inv h
  cases h
  have := name_left e1
  have := expect_left e2 (by decide)
  have := expr_size _ _ _ e3
  have := expect_left e4 (by decide)
  have := rest_le s
  rw [sizes_named, sizes_one]
  omega
theorem frame_size {s s1 : St} {t : T} (h : frame E s = .ok t s1) : size t + 2 * left s1 ≤ 2 * left s := by
  unfold frame at h
  obtain ⟨a1, s1, e1, h⟩ := bind_inv h
  obtain ⟨a2, s2, e2, h⟩ := bind_inv h
  cases h
  have := separated_size pvar_size e1
  have := expect_left e2 (by decide)
  have := rest_le s
  rw [sizes_of]
  omega
theorem proc_size {s s1 : St} {t : T} (h : proc E s = .ok t s1) : size t + 2 * left s1 ≤ 2 * left s := by
  unfold proc at h
  obtain ⟨a1, s1, e1, h⟩ := bind_inv h
  obtain ⟨a2, s2, e2, h⟩ := bind_inv h
  obtain ⟨a3, s3, e3, h⟩ := bind_inv h
  obtain ⟨a4, s4, e4, h⟩ := bind_inv h
  cases h
  have := name_left e1
  have := tuple_size param_size e2
  have := rest_le s
  have h3 : left s3 ≤ left s2 := by
    split at e3
    · have := name_left e3
      have := rest_le s2
      omega
    · cases e3
      exact Nat.le_refl _
  have := block_size stmt_size takes_stmt e4
  rw [sizes_mk, sizes_snoc]
  omega
theorem shared_size {s s1 : St} {t : T} (h : shared E s = .ok t s1) : size t + 2 * left s1 ≤ 2 * left s := by
  have h0 := (both_shared (E := E) s).2 t s1 h
  unfold shared at h
  obtain ⟨a1, s1, e1, h⟩ := bind_inv h
  obtain ⟨a2, s2, e2, h⟩ := bind_inv h
  obtain ⟨a3, s3, e3, h⟩ := bind_inv h
  obtain ⟨a4, s4, e4, h⟩ := bind_inv h
  obtain ⟨a5, s5, e5, h⟩ := bind_inv h
  obtain ⟨a6, s6, e6, h⟩ := bind_inv h
  obtain ⟨a7, s7, e7, h⟩ := bind_inv h
  cases h
  rw [sizes_mk, sizes_nil]
  omega
theorem declaration_size : Room 0 (declaration E) := fun s t s1 h => by
  unfold declaration at h
  split at h
  · exact record_size h
  split at h
  · exact lock_size h
  split at h
  · exact claim_size _ h
  split at h
  · exact claim_size _ h
  split at h
  · exact frame_size h
  split at h
  · exact proc_size h
  · exact shared_size h
theorem unit_size : Room 0 (unit E) := fun s t s1 h => by
  unfold unit at h
  split at h
  · unfold module at h
    obtain ⟨a1, s1, e1, h⟩ := bind_inv h
    obtain ⟨a2, s2, e2, h⟩ := bind_inv h
    obtain ⟨a3, s3, e3, h⟩ := bind_inv h
    obtain ⟨a4, s4, e4, h⟩ := bind_inv h
    cases h
    have := name_left e1
    have := expect_left e2 (by decide)
    have := name_left e3
    have := list_size declaration_size takes_declaration e4
    have := rest_le s
    rw [sizes_mk]
    omega
  · unfold thread at h
    obtain ⟨a1, s1, e1, h⟩ := bind_inv h
    obtain ⟨a2, s2, e2, h⟩ := bind_inv h
    obtain ⟨a3, s3, e3, h⟩ := bind_inv h
    obtain ⟨a4, s4, e4, h⟩ := bind_inv h
    obtain ⟨a5, s5, e5, h⟩ := bind_inv h
    obtain ⟨a6, s6, e6, h⟩ := bind_inv h
    cases h
    have := expect_left e1 (by decide)
    have := name_left e2
    have := expect_left e3 (by decide)
    have := path_left1 e4
    have := tuple_size numeral_size e5
    have := expect_left e6 (by decide)
    have := accepted_le (E := E) [97, 115, 108, 101, 101, 112] s
    rw [sizes_mk]
    omega
theorem units_size {rd : St → Res T} (h0 : Room 0 rd) (ht : Takes rd) : ∀ (k : Nat) (l : List T) (s : St), sizes (unitsGo rd k l s).1 + 2 * left (unitsGo rd k l s).2 ≤ 2 * left s + sizes l
  | 0, l, s => by rw [unitsGo]; simp only; omega
  | k + 1, l, s => by
    by_cases hn : s.toks = []
    · rw [units_nil _ _ hn]; simp only; omega
    · rw [units_cons _ _ hn]
      have h1 := units_size h0 ht k (more l (item rd false s).1) (item rd false s).2
      have h2 : sizes (more l (item rd false s).1) + 2 * left (item rd false s).2 ≤ 2 * left s + sizes l := by
        have h3 := item_left (E := 0) ht (b := false) hn (.inl rfl)
        unfold item at h3 ⊢
        cases hr : rd s with
        | ok t s2 =>
          have := h0 _ _ _ hr
          simp only [more]
          rw [sizes_snoc]
          omega
        | bad d s2 =>
          rw [hr] at h3
          simp only [more] at h3 ⊢
          omega
      omega
theorem parse_size {src : List UInt8} : size (parse src).1 ≤ 3001 := by
  obtain ⟨ts, k, p, h⟩ : ∃ ts k p, Lx.lex src = (ts, k, p) := ⟨_, _, _, rfl⟩
  have hs : size (source []) = 1 := by unfold source; rw [sizes_of, sizes_nil]
  by_cases hk : k = 0
  · subst hk
    rw [parse_units h]
    split
    · simp only; rw [hs]; omega
    · have h1 := units_size (unit_size (E := src.length)) takes_unit (ts.length + 1) [] (start ts)
      have h2 : ts.length ≤ 1500 := Lx.lex_len_of h
      have h3 : left (start ts) = ts.length := rfl
      rw [sizes_nil] at h1
      show size (source (units src.length ts).1) ≤ _
      unfold source units
      rw [sizes_of]
      omega
  · unfold parse
    rw [h]
    simp only
    rw [if_pos hk]
    simp only
    rw [hs]
    omega
end Go.Proofs.YtbgpboiblggmiaaGreatDoor.Px
