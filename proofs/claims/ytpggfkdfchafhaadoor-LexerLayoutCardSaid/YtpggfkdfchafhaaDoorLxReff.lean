/-
  The reference's token by one contract; a walk over the reference's Lex.
-/
import Derived.Test.YtpggfkdfchafhaaDoorLxRefe
import Derived.OwnWalk
namespace Go.Proofs.YtpggfkdfchafhaaDoor
open Go.RowKit

/-- the cells of a token -/
def tokCells (t : Lx.Tok) : List Value := [.int .i64 t.kind, .string ⟨t.text.toArray⟩, .int .i64 t.off]
/-- the cells of tokens, one behind the other -/
def toksCells (l : List Lx.Tok) : List Value := l.flatMap tokCells
theorem toksCells_snoc (l : List Lx.Tok) (t : Lx.Tok) : toksCells (l ++ [t]) = toksCells l ++ tokCells t := by simp [toksCells]
theorem toksCells_len (l : List Lx.Tok) : (toksCells l).length = l.length * 3 := by
  induction l with
  | nil => rfl
  | cons a r ih => unfold toksCells at *; rw [List.flatMap_cons, List.length_append, ih]; simp [tokCells]; omega

/-- 'token' answers a token -/
def TokYes (s : ByteArray) (a kd n : Nat) (w : World) (e : Ending) (w' : World) : Prop :=
  Below w.heap.size w w' ∧ ∃ tx : ByteArray, tx.size = n ∧ tx = ⟨((s.data.toList.drop a).take n).toArray⟩ ∧ e = .returned (.tuple #[.agg #[.int .i64 kd, .string tx, .int .i64 a], .bool true])
/-- 'token' answers none -/
def TokNo (w : World) (e : Ending) (w' : World) : Prop :=
  Below w.heap.size w w' ∧ ∃ (k p : Int) (tx : ByteArray), e = .returned (.tuple #[.agg #[.int .i64 k, .string tx, .int .i64 p], .bool false])

theorem extract_text (s : ByteArray) (a n : Nat) : s.extract a (a + n) = ⟨((s.data.toList.drop a).take n).toArray⟩ := by
  apply WideShapes.bytes_inj
  rw [Lib.extract_data]
  simp
theorem extract_size (s : ByteArray) (a n : Nat) (h : a + n ≤ s.size) : (s.extract a (a + n)).size = n := by
  rw [ByteArray.size_extract]; omega

theorem token_yes (s : ByteArray) (a : Nat) (w : World) (h1 : a < s.size) (hs : s.size ≤ 4000) (kd n : Nat) (h : Lx.tok (s.data.toList.drop a) = some (kd, n)) :
    Calls Tryd.prog 23 #[.string s, .int .i64 a] w (TokYes s a kd n w) := by
  have hp := (Lx.tok_pos _ _ _ h).2
  rw [List.length_drop] at hp
  have hp' : a + n ≤ s.size := by have : s.data.toList.length = s.size := rfl; omega
  cases hl : Lx.letterU s.data.toList[a]
  · cases hd : Lx.digitU s.data.toList[a]
    · rw [Lx.tok_sym _ _ h1 hl hd] at h
      cases ho : Lx.sym (s.data.toList.drop a) with
      | none => rw [ho] at h; cases h
      | some t =>
        rw [ho] at h
        simp only [Option.map_some, Option.some.injEq, Prod.mk.injEq] at h
        obtain ⟨rfl, rfl⟩ := h
        refine (token_sym s a w h1 hs hl hd _ ho).mono fun e w' ⟨hb, he⟩ => ⟨hb, _, ?_, ?_, he⟩
        · show t.toArray.size = t.length
          simp
        · rw [(Lx.sym_len _ _ ho).1]
    · rw [Lx.tok_digit _ _ h1 hl hd] at h
      split at h
      · rename_i hok
        simp only [Option.some.injEq, Prod.mk.injEq] at h
        obtain ⟨rfl, hn⟩ := h
        refine (token_digit s a w h1 hs hl hd n hn.symm true (by rw [← hn]; exact hok)).mono fun e w' ⟨he, hb⟩ => ⟨hb, _, extract_size s a n hp', extract_text s a n, he⟩
      · cases h
  · rw [Lx.tok_letter _ _ h1 hl] at h
    split at h
    · rename_i hok
      simp only [Option.some.injEq, Prod.mk.injEq] at h
      obtain ⟨rfl, hn⟩ := h
      refine (token_letter s a w h1 hs hl n hn.symm).mono fun e w' ⟨he, hb⟩ => ⟨hb, _, extract_size s a n hp', extract_text s a n, ?_⟩
      rw [he, decide_eq_true (by omega)]
      rfl
    · cases h

theorem token_no (s : ByteArray) (a : Nat) (w : World) (h1 : a < s.size) (hs : s.size ≤ 4000) (h : Lx.tok (s.data.toList.drop a) = none) :
    Calls Tryd.prog 23 #[.string s, .int .i64 a] w (TokNo w) := by
  cases hl : Lx.letterU s.data.toList[a]
  · cases hd : Lx.digitU s.data.toList[a]
    · rw [Lx.tok_sym _ _ h1 hl hd] at h
      cases ho : Lx.sym (s.data.toList.drop a) with
      | some t => rw [ho] at h; cases h
      | none => exact (token_sym s a w h1 hs hl hd _ ho).mono fun e w' ⟨hb, he⟩ => ⟨hb, 0, 0, _, he⟩
    · rw [Lx.tok_digit _ _ h1 hl hd] at h
      split at h
      · cases h
      · rename_i hok
        exact (token_digit s a w h1 hs hl hd _ rfl false (by simpa using hok)).mono fun e w' ⟨he, hb⟩ => ⟨hb, 2, a, _, he⟩
  · rw [Lx.tok_letter _ _ h1 hl] at h
    split at h
    · cases h
    · rename_i hok
      refine (token_letter s a w h1 hs hl _ rfl).mono fun e w' ⟨he, hb⟩ => ⟨hb, 1, a, s.extract a (a + Lx.run Lx.wordU (s.data.toList.drop a)), ?_⟩
      rw [he, decide_eq_false hok]

theorem skip_int (s : ByteArray) (a : Int) (n r : Nat) (w : World) (ha : a = n) (h1 : n ≤ s.size) (hs : s.size ≤ 4000) (hr : r = n + Lx.skip false (s.data.toList.drop n)) :
    Calls Tryd.prog 22 #[.string s, .int .i64 a] w fun e w' => e = .returned (.int .i64 r) ∧ w = w' := by
  subst ha
  subst hr
  exact skip_any s n w h1 hs

end Go.Proofs.YtpggfkdfchafhaaDoor
