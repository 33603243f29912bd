/-
  Walks over the reference lexer's functions that make a token: a name.
-/
import Derived.Test.YtpggfkdfchafhaaDoorLxRefa
namespace Go.Proofs.YtpggfkdfchafhaaDoor
open Go.RowKit

theorem letterB (c : Int) (b : Bool) (w : World) (hb : Lx.letter c = b) :
    Calls Tryd.prog 33 #[.int .u8 c] w fun e w' => e = .returned (.bool b) ∧ w = w' := by
  subst hb
  exact letter_any c w
theorem digitB (c : Int) (b : Bool) (w : World) (hb : Lx.digit c = b) :
    Calls Tryd.prog 35 #[.int .u8 c] w fun e w' => e = .returned (.bool b) ∧ w = w' := by
  subst hb
  exact digit_any c w

theorem token_ret (kd : Int) (s : ByteArray) (a n k : Nat) (b c : Bool) (h : a + n = k) (hb : b = c) :
    Ending.returned (.tuple #[.agg #[.int .i64 kd, .string (s.extract a k), .int .i64 a], .bool b]) = Ending.returned (.tuple #[.agg #[.int .i64 kd, .string (s.extract a (a + n)), .int .i64 a], .bool c]) := by
  subst h; subst hb; rfl

set_option maxHeartbeats 1000000 in
theorem name_any (s : ByteArray) (a : Nat) (w : World) (h1 : a ≤ s.size) (hs : s.size ≤ 4000) (n : Nat) (hn : n = Lx.run Lx.wordU (s.data.toList.drop a)) :
    Calls Tryd.prog 34 #[.string s, .int .i64 a] w fun e w' => e = .returned (.tuple #[.agg #[.int .i64 1, .string (s.extract a (a + n)), .int .i64 a], .bool (decide (n ≤ 16))]) ∧ Below w.heap.size w w' := by
  have HR := Lib.hid hn
  clear hn
  go_enter Tryd.func34, Tryd.ntmps34
  go_wp2
  go_loop [6] (fun t => ∃ k : Nat, a ≤ k ∧ k ≤ s.size ∧ t = .int .i64 k ∧ a + n = k + Lx.run Lx.wordU (s.data.toList.drop k)) (fun t => s.size - (intOf t).toNat)
  case atStart => exact ⟨a, Nat.le_refl _, h1, rfl, by rw [HR.out]⟩
  case round =>
    obtain ⟨k, hak, hk, rfl, hr⟩ := hrel
    have Hr := Lib.hid hr
    clear hr
    by_cases hlt : k < s.size
    · cases hl : Lx.letterU s.data.toList[k]
      · cases hd : Lx.digitU s.data.toList[k]
        · cases hu : ((s[k].toNat : Int) == 95)
          · have Hs := Lib.hid (Lx.run_no Lx.wordU _ _ hlt (Lx.word_none _ hl hd hu))
            go_wp2_with (first | (go_at_call 33; refine (letterB _ false _ hl).mono ?_; rintro e w' ⟨rfl, rfl⟩) | (go_at_call 35; refine (digitB _ false _ hd).mono ?_; rintro e w' ⟨rfl, rfl⟩))
            exact bodyPost_ret (v := .tuple #[.agg #[.int .i64 1, .string (s.extract a k), .int .i64 a], .bool (decide ((k : Int) - a ≤ 16))]) (by simp [results, Tryd.results34, go_sem]) rfl
              ⟨token_ret _ _ _ _ _ _ _ (by rw [Hr.out, Hs.out]; rfl) (by have := Hr.out; rw [Hs.out] at this; rw [decide_eq_decide]; omega), (Below.refl _ _).alloc (Nat.le_refl _) _⟩
          · have Hs := Lib.hid (Lx.run_yes Lx.wordU _ _ hlt (Lx.word_under _ hu))
            go_wp2_with (first | (go_at_call 33; refine (letterB _ false _ hl).mono ?_; rintro e w' ⟨rfl, rfl⟩) | (go_at_call 35; refine (digitB _ false _ hd).mono ?_; rintro e w' ⟨rfl, rfl⟩))
            go_round
            case rel => exact ⟨k + 1, by omega, by omega, by go_num, by rw [Hr.out, Hs.out]; omega⟩
            case measure => simp [intOf]; omega
        · have Hs := Lib.hid (Lx.run_yes Lx.wordU _ _ hlt (Lx.word_digit _ hd))
          go_wp2_with (first | (go_at_call 33; refine (letterB _ false _ hl).mono ?_; rintro e w' ⟨rfl, rfl⟩) | (go_at_call 35; refine (digitB _ true _ hd).mono ?_; rintro e w' ⟨rfl, rfl⟩))
          go_round
          case rel => exact ⟨k + 1, by omega, by omega, by go_num, by rw [Hr.out, Hs.out]; omega⟩
          case measure => simp [intOf]; omega
      · have Hs := Lib.hid (Lx.run_yes Lx.wordU _ _ hlt (Lx.word_letter _ hl))
        go_wp2_with (go_at_call 33; refine (letterB _ true _ hl).mono ?_; rintro e w' ⟨rfl, rfl⟩)
        go_round
        case rel => exact ⟨k + 1, by omega, by omega, by go_num, by rw [Hr.out, Hs.out]; omega⟩
        case measure => simp [intOf]; omega
    · have Hs := Lib.hid (Lx.run_end Lx.wordU s.data.toList k (by show s.size ≤ k; omega))
      go_wp2
      exact bodyPost_ret (v := .tuple #[.agg #[.int .i64 1, .string (s.extract a k), .int .i64 a], .bool (decide ((k : Int) - a ≤ 16))]) (by simp [results, Tryd.results34, go_sem]) rfl
        ⟨token_ret _ _ _ _ _ _ _ (by rw [Hr.out, Hs.out]; rfl) (by have := Hr.out; rw [Hs.out] at this; rw [decide_eq_decide]; omega), (Below.refl _ _).alloc (Nat.le_refl _) _⟩

end Go.Proofs.YtpggfkdfchafhaaDoor
