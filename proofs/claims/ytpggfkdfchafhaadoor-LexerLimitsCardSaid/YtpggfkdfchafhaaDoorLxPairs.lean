/-
  Plain laws: names of one letter, separated by blanks.
-/
import Derived.Test.YtpggfkdfchafhaaDoorLxMore
namespace Go.Proofs.YtpggfkdfchafhaaDoor.Lx

/-- n times a letter and a blank -/
def pairs (q : UInt8) : Nat → List UInt8
  | 0 => []
  | n + 1 => q :: 32 :: pairs q n
theorem pairs_snoc (q : UInt8) (n : Nat) : pairs q n ++ [q, 32] = pairs q (n + 1) := by
  induction n with
  | zero => rfl
  | succ n ih => show q :: 32 :: (pairs q n ++ [q, 32]) = _; rw [ih]; rfl
theorem pairs_len (q : UInt8) (n : Nat) : (pairs q n).length = 2 * n := by
  induction n with
  | zero => rfl
  | succ n ih => show (pairs q n).length + 1 + 1 = _; rw [ih]; omega

theorem letter_lower (q : UInt8) (h : 97 ≤ q.toNat) (h2 : q.toNat ≤ 122) : letterU q = true := by
  unfold letterU letter
  simp only [Bool.or_eq_true, Bool.and_eq_true, decide_eq_true_eq]
  left; omega
theorem white_lower (q : UInt8) (h : 97 ≤ q.toNat) : whiteU q = false := by
  unfold whiteU white
  simp only [Bool.or_eq_false_iff, beq_eq_false_iff_ne]
  omega
theorem skip_pairs (q : UInt8) (h : 97 ≤ q.toNat) (n : Nat) : skip false (pairs q n) = 0 := by
  cases n with
  | zero => rfl
  | succ n =>
    show skip false (q :: 32 :: pairs q n) = 0
    unfold skip
    rw [if_neg Bool.false_ne_true, if_neg (by rw [white_lower q h]; exact Bool.false_ne_true), if_neg (by rintro ⟨rfl, _⟩; exact absurd h (by decide))]
theorem tok_pairs (q : UInt8) (h : 97 ≤ q.toNat) (h2 : q.toNat ≤ 122) (n : Nat) : tok (pairs q (n + 1)) = some (1, 1) := by
  show tok (q :: 32 :: pairs q n) = _
  have hr : run wordU (q :: 32 :: pairs q n) = 1 := by
    rw [run_cons, if_pos (word_letter q (letter_lower q h h2)), run_cons, if_neg (by decide)]
  rw [tok_cons, if_pos (letter_lower q h h2), hr]
  rfl

theorem go_pairs (q : UInt8) (h : 97 ≤ q.toNat) (h2 : q.toNat ≤ 122) (n : Nat) : ∀ (f k c : Nat), c ≤ 1500 → n < f → (c + n ≤ 1500 → (go f (pairs q n) k c).1.length = n ∧ (go f (pairs q n) k c).2 = (0, 0)) ∧ (1500 < c + n → (go f (pairs q n) k c).2 = (2, k + 2 * (1500 - c))) := by
  induction n with
  | zero =>
    intro f k c hc hf
    refine ⟨fun _ => ?_, fun h => by omega⟩
    cases f <;> exact ⟨rfl, rfl⟩
  | succ n ih =>
    intro f k c hc hf
    obtain ⟨f, rfl⟩ : ∃ g, f = g + 1 := ⟨f - 1, by omega⟩
    by_cases hc' : c = 1500
    · subst hc'
      refine ⟨fun h => by omega, fun _ => ?_⟩
      show (go (f + 1) (q :: 32 :: pairs q n) k 1500).2 = _
      simp [go]
    · have e : go (f + 1) (pairs q (n + 1)) k c = (⟨1, (pairs q (n + 1)).take 1, k⟩ :: (go f (pairs q n) (k + 2) (c + 1)).1, (go f (pairs q n) (k + 2) (c + 1)).2) := by
        have ht := tok_pairs q h h2 n
        have hk : skip false (32 :: pairs q n) = 1 := by
          unfold skip
          rw [if_neg Bool.false_ne_true, if_pos (by decide), skip_pairs q h]
        show go (f + 1) (q :: 32 :: pairs q n) k c = _
        change tok (q :: 32 :: pairs q n) = _ at ht
        simp only [go, hc', if_false, ht]
        have hd : List.drop 1 (q :: 32 :: pairs q n) = 32 :: pairs q n := rfl
        simp only [hd, hk]
        rfl
      obtain ⟨h3, h4⟩ := ih f (k + 2) (c + 1) (by omega) (by omega)
      rw [e]
      refine ⟨fun hle => ?_, fun hgt => ?_⟩
      · obtain ⟨h5, h6⟩ := h3 (by omega)
        exact ⟨by simp only [List.length_cons]; rw [h5], h6⟩
      · rw [h4 (by omega)]
        show (2, k + 2 + 2 * (1500 - (c + 1))) = (2, k + 2 * (1500 - c))
        congr 1
        omega

theorem lex_pairs (q : UInt8) (h : 97 ≤ q.toNat) (h2 : q.toNat ≤ 122) (n : Nat) : (4000 < 2 * n → lex (pairs q n) = ([], 2, 0)) ∧ (2 * n ≤ 4000 → 1500 < n → lex (pairs q n) = ([], 2, 3000)) ∧ (n ≤ 1500 → ∃ ts, ts.length = n ∧ lex (pairs q n) = (ts, 0, 0)) := by
  have hl := pairs_len q n
  obtain ⟨h3, h4⟩ := go_pairs q h h2 n ((pairs q n).length + 1) 0 0 (by omega) (by omega)
  refine ⟨fun hb => lex_big _ (by omega), fun hs hn => ?_, fun hn => ?_⟩
  · unfold lex
    rw [if_neg (by omega), skip_pairs q h, List.drop_zero]
    unfold fin
    rw [h4 (by omega)]
    rfl
  · obtain ⟨h5, h6⟩ := h3 (by omega)
    refine ⟨(go ((pairs q n).length + 1) (pairs q n) 0 0).1, h5, ?_⟩
    unfold lex
    rw [if_neg (by omega), skip_pairs q h, List.drop_zero]
    unfold fin
    rw [h6]
    rfl

end Go.Proofs.YtpggfkdfchafhaaDoor.Lx
