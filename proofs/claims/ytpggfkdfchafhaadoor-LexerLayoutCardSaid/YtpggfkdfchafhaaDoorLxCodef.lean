/-
  The program's tokenAt by one contract: it answers what chapter 1 says.
-/
import Derived.Test.YtpggfkdfchafhaaDoorLxCodee
import Derived.Test.YtpggfkdfchafhaaDoorLxSym
namespace Go.Proofs.YtpggfkdfchafhaaDoor
open Go.RowKit

theorem symsAt_pos {w : World} (h : SymsAt w) : 0 < w.heap.size := World.block_lt_of_cell? w ⟨0, 0, none⟩ (h 0 [61, 61, 62] rfl)

theorem cls_letter_at (s : ByteArray) (a : Nat) (h1 : a < s.size) (b : Bool) (h : Lx.letterU s.data.toList[a] = b) : Lx.inCls ({ data := #[65, 90, 97, 122] } : ByteArray).data.toList (s[a].toNat : Int) = b :=
  (Lx.cls_letter _).trans h
theorem cls_digit_at (s : ByteArray) (a : Nat) (h1 : a < s.size) (b : Bool) (h : Lx.digitU s.data.toList[a] = b) : Lx.inCls ({ data := #[48, 57] } : ByteArray).data.toList (s[a].toNat : Int) = b :=
  (Lx.cls_digit _).trans h
theorem same_calls {f : FuncId} {args : Array Value} {w : World} {T : ByteArray} (h : Calls Tryd.prog f args w fun e w'' => e = .returned (.string T) ∧ w = w'') : Calls Tryd.prog f args w fun e w'' => e = .returned (.string T) ∧ Below w.heap.size w w'' :=
  h.mono fun _ _ ⟨he, hw⟩ => ⟨he, hw ▸ Below.refl _ _⟩
theorem not_empty (T : ByteArray) (h : 0 < T.size) : T.toList.isEmpty = false := by
  rw [ByteArray.toList_eq]
  cases hT : T.data.toList with
  | nil => have : T.data.toList.length = T.size := rfl; rw [hT] at this; simp at this; omega
  | cons a r => rfl

theorem tokenAt_yes (s : ByteArray) (a : Nat) (w : World) (h1 : a < s.size) (hs : s.size ≤ 4000) (hS : SymsAt w) (kd n : Nat) (h : Lx.tok (s.data.toList.drop a) = some (kd, n)) :
    Calls Tryd.prog 21 #[.string s, .int .i64 a] w (TokYes s a kd n w) := by
  have hp0 := (Lx.tok_pos _ _ _ h).1
  have hp := (Lx.tok_pos _ _ _ h).2
  rw [List.length_drop] at hp
  have hp' : a + n ≤ s.size := by have : s.data.toList.length = s.size := rfl; omega
  have hne : (s.extract a (a + n)).toList.isEmpty = false := not_empty _ (by rw [extract_size s a n hp']; exact hp0)
  cases hl : Lx.letterU s.data.toList[a]
  · cases hd : Lx.digitU s.data.toList[a]
    · rw [Lx.tok_sym _ _ h1 hl hd] at h
      cases ho : Lx.sym (s.data.toList.drop a) with
      | none => rw [ho] at h; cases h
      | some t =>
        rw [ho] at h
        simp only [Option.map_some, Option.some.injEq, Prod.mk.injEq] at h
        obtain ⟨rfl, rfl⟩ := h
        have hsl := Lx.sym_len _ _ ho
        have hts : (⟨t.toArray⟩ : ByteArray).size = t.length := by show t.toArray.size = t.length; simp
        refine (at_symbol_yes s a w h1 (cls_letter_at s a h1 _ hl) (cls_digit_at s a h1 _ hd) ⟨t.toArray⟩ (not_empty _ (by rw [hts]; exact hp0)) (Lib.hid fun w' hb => symbolAt_any s a w' h1 hs (symsAt_below hS hb (symsAt_pos hS)) (some t) (by rw [sym_same, ho]) _ rfl)).mono fun e w' ⟨he, hb⟩ => ⟨hb, _, hts, ?_, he⟩
        rw [hsl.1]
    · rw [Lx.tok_digit _ _ h1 hl hd] at h
      split at h
      · rename_i hok
        simp only [Option.some.injEq, Prod.mk.injEq] at h
        obtain ⟨rfl, hn⟩ := h
        refine (at_number_yes s a w h1 (cls_letter_at s a h1 _ hl) (cls_digit_at s a h1 _ hd) _ hne (Lib.hid fun w' _ => same_calls ?_)).mono fun e w' ⟨he, hb⟩ => ⟨hb, _, extract_size s a n hp', extract_text s a n, he⟩
        have := numberAt_any s a w' h1 hs hd n hn.symm
        rw [← hn] at this ⊢
        rw [if_pos hok] at this
        exact this
      · cases h
  · rw [Lx.tok_letter _ _ h1 hl] at h
    split at h
    · rename_i hok
      simp only [Option.some.injEq, Prod.mk.injEq] at h
      obtain ⟨rfl, hn⟩ := h
      exact (at_name_yes s a w h1 (cls_letter_at s a h1 _ hl) _ hne (Lib.hid fun w' _ => same_calls (nameAt_ok s a w' (by omega) hs n hn.symm (by omega)))).mono fun e w' ⟨he, hb⟩ => ⟨hb, _, extract_size s a n hp', extract_text s a n, he⟩
    · cases h

theorem tokenAt_no (s : ByteArray) (a : Nat) (w : World) (h1 : a < s.size) (hs : s.size ≤ 4000) (hS : SymsAt w) (h : Lx.tok (s.data.toList.drop a) = none) :
    Calls Tryd.prog 21 #[.string s, .int .i64 a] w (TokNo w) := by
  cases hl : Lx.letterU s.data.toList[a]
  · cases hd : Lx.digitU s.data.toList[a]
    · rw [Lx.tok_sym _ _ h1 hl hd] at h
      cases ho : Lx.sym (s.data.toList.drop a) with
      | some t => rw [ho] at h; cases h
      | none => exact (at_symbol_no s a w h1 (cls_letter_at s a h1 _ hl) (cls_digit_at s a h1 _ hd) (Lib.hid fun w' hb => symbolAt_any s a w' h1 hs (symsAt_below hS hb (symsAt_pos hS)) none (by rw [sym_same, ho]) _ rfl)).mono fun e w' ⟨he, hb⟩ => ⟨hb, 0, 0, _, he⟩
    · rw [Lx.tok_digit _ _ h1 hl hd] at h
      split at h
      · cases h
      · rename_i hok
        refine (at_number_no s a w h1 (cls_letter_at s a h1 _ hl) (cls_digit_at s a h1 _ hd) (Lib.hid fun w' _ => same_calls ?_)).mono fun e w' ⟨he, hb⟩ => ⟨hb, 0, 0, _, he⟩
        have := numberAt_any s a w' h1 hs hd _ rfl
        rw [if_neg hok] at this
        exact this
  · rw [Lx.tok_letter _ _ h1 hl] at h
    split at h
    · cases h
    · rename_i hok
      exact (at_name_no s a w h1 (cls_letter_at s a h1 _ hl) (Lib.hid fun w' _ => same_calls (nameAt_long s a w' (by omega) hs _ rfl (by omega)))).mono fun e w' ⟨he, hb⟩ => ⟨hb, 0, 0, _, he⟩

theorem gap_int (s : ByteArray) (a : Int) (n r : Nat) (w : World) (ha : a = n) (h1 : n ≤ s.size) (hs : s.size ≤ 4000) (hr : r = n + Lx.skip false (s.data.toList.drop n)) :
    Calls Tryd.prog 20 #[.string s, .int .i64 a] w fun e w' => e = .returned (.int .i64 r) ∧ w = w' := by
  subst ha
  subst hr
  exact gapEnd_any s n w h1 hs

end Go.Proofs.YtpggfkdfchafhaaDoor
