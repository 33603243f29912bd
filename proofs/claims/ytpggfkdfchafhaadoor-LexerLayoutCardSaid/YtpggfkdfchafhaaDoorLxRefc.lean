/-
  Walks over the reference lexer's functions that make a token: a number.
-/
import Derived.Test.YtpggfkdfchafhaaDoorLxRefb
namespace Go.Proofs.YtpggfkdfchafhaaDoor
open Go.RowKit

set_option maxHeartbeats 1000000 in
theorem number_any (s : ByteArray) (a : Nat) (w : World) (h1 : a < s.size) (hs : s.size ≤ 4000) (n : Nat) (hn : n = Lx.run Lx.digitU (s.data.toList.drop a)) :
    Calls Tryd.prog 36 #[.string s, .int .i64 a] w fun e w' => e = .returned (.tuple #[.agg #[.int .i64 2, .string (s.extract a (a + n)), .int .i64 a], .bool (Lx.numOk (s.data.toList.drop a) n)]) ∧ Below w.heap.size w w' := by
  have HR := Lib.hid hn
  clear hn
  go_enter Tryd.func36, Tryd.ntmps36
  go_wp2
  go_loop [6] (fun t => ∃ k : Nat, a ≤ k ∧ k ≤ s.size ∧ t = .int .i64 k ∧ a + n = k + Lx.run Lx.digitU (s.data.toList.drop k)) (fun t => s.size - (intOf t).toNat)
  case atStart => exact ⟨a, Nat.le_refl _, by omega, rfl, by rw [HR.out]⟩
  case round =>
    obtain ⟨k, hak, hk, rfl, hr⟩ := hrel
    have Hr := Lib.hid hr
    clear hr
    by_cases hlt : k < s.size
    · cases hd : Lx.digitU s.data.toList[k]
      · have Hs := Lib.hid (Lx.run_no Lx.digitU _ _ hlt hd)
        cases hl : Lx.letterU s.data.toList[k]
        · go_wp2_with (first | (go_at_call 33; refine (letterB _ false _ hl).mono ?_; rintro e w' ⟨rfl, rfl⟩) | (go_at_call 35; refine (digitB _ false _ hd).mono ?_; rintro e w' ⟨rfl, rfl⟩))
          all_goals
            have He : a + n = k := by rw [Hr.out, Hs.out]; rfl
            have Hb := Lx.numOk_eq s a k n h1 He
            have Hl := Lx.lu_no s k hlt hl
            first
              | (refine bodyPost_ret (v := .tuple #[.agg #[.int .i64 2, .string (s.extract a k), .int .i64 a], .bool false]) ?_ rfl ⟨token_ret _ _ _ _ _ _ _ He ?_, (Below.refl _ _).alloc (Nat.le_refl _) _⟩; (focus (simp [results, Tryd.results36, go_sem]; done)); rw [Hb]; first | (refine Lx.nf1 ?_; assumption) | (refine Lx.nf2 Hl) | (refine Lx.nf2 (Hl.trans ?_); assumption) | (refine Lx.nt1 ?_ ?_ Hl <;> assumption) | (refine Lx.nt1 ?_ ?_ (Hl.trans ?_) <;> assumption) | (refine Lx.ne1 ?_ ?_ Hl <;> assumption) | (refine Lx.ne1 ?_ ?_ (Hl.trans ?_) <;> assumption))
              | (refine bodyPost_ret (v := .tuple #[.agg #[.int .i64 2, .string (s.extract a k), .int .i64 a], .bool true]) ?_ rfl ⟨token_ret _ _ _ _ _ _ _ He ?_, (Below.refl _ _).alloc (Nat.le_refl _) _⟩; (focus (simp [results, Tryd.results36, go_sem]; done)); rw [Hb]; first | (refine Lx.nf1 ?_; assumption) | (refine Lx.nf2 Hl) | (refine Lx.nf2 (Hl.trans ?_); assumption) | (refine Lx.nt1 ?_ ?_ Hl <;> assumption) | (refine Lx.nt1 ?_ ?_ (Hl.trans ?_) <;> assumption) | (refine Lx.ne1 ?_ ?_ Hl <;> assumption) | (refine Lx.ne1 ?_ ?_ (Hl.trans ?_) <;> assumption))
              | (refine bodyPost_ret (v := .tuple #[.agg #[.int .i64 2, .string (s.extract a k), .int .i64 a], .bool ((k : Int) == a + 1)]) ?_ rfl ⟨token_ret _ _ _ _ _ _ _ He ?_, (Below.refl _ _).alloc (Nat.le_refl _) _⟩; (focus (simp [results, Tryd.results36, go_sem]; done)); rw [Hb]; first | (refine Lx.nf1 ?_; assumption) | (refine Lx.nf2 Hl) | (refine Lx.nf2 (Hl.trans ?_); assumption) | (refine Lx.nt1 ?_ ?_ Hl <;> assumption) | (refine Lx.nt1 ?_ ?_ (Hl.trans ?_) <;> assumption) | (refine Lx.ne1 ?_ ?_ Hl <;> assumption) | (refine Lx.ne1 ?_ ?_ (Hl.trans ?_) <;> assumption))
        · go_wp2_with (first | (go_at_call 33; refine (letterB _ true _ hl).mono ?_; rintro e w' ⟨rfl, rfl⟩) | (go_at_call 35; refine (digitB _ false _ hd).mono ?_; rintro e w' ⟨rfl, rfl⟩))
          all_goals
            have He : a + n = k := by rw [Hr.out, Hs.out]; rfl
            have Hb := Lx.numOk_eq s a k n h1 He
            have Hl := Lx.lu_yes s k hlt hl
            first
              | (refine bodyPost_ret (v := .tuple #[.agg #[.int .i64 2, .string (s.extract a k), .int .i64 a], .bool false]) ?_ rfl ⟨token_ret _ _ _ _ _ _ _ He ?_, (Below.refl _ _).alloc (Nat.le_refl _) _⟩; (focus (simp [results, Tryd.results36, go_sem]; done)); rw [Hb]; first | (refine Lx.nf1 ?_; assumption) | (refine Lx.nf2 Hl) | (refine Lx.nf2 (Hl.trans ?_); assumption) | (refine Lx.nt1 ?_ ?_ Hl <;> assumption) | (refine Lx.nt1 ?_ ?_ (Hl.trans ?_) <;> assumption) | (refine Lx.ne1 ?_ ?_ Hl <;> assumption) | (refine Lx.ne1 ?_ ?_ (Hl.trans ?_) <;> assumption))
              | (refine bodyPost_ret (v := .tuple #[.agg #[.int .i64 2, .string (s.extract a k), .int .i64 a], .bool true]) ?_ rfl ⟨token_ret _ _ _ _ _ _ _ He ?_, (Below.refl _ _).alloc (Nat.le_refl _) _⟩; (focus (simp [results, Tryd.results36, go_sem]; done)); rw [Hb]; first | (refine Lx.nf1 ?_; assumption) | (refine Lx.nf2 Hl) | (refine Lx.nf2 (Hl.trans ?_); assumption) | (refine Lx.nt1 ?_ ?_ Hl <;> assumption) | (refine Lx.nt1 ?_ ?_ (Hl.trans ?_) <;> assumption) | (refine Lx.ne1 ?_ ?_ Hl <;> assumption) | (refine Lx.ne1 ?_ ?_ (Hl.trans ?_) <;> assumption))
              | (refine bodyPost_ret (v := .tuple #[.agg #[.int .i64 2, .string (s.extract a k), .int .i64 a], .bool ((k : Int) == a + 1)]) ?_ rfl ⟨token_ret _ _ _ _ _ _ _ He ?_, (Below.refl _ _).alloc (Nat.le_refl _) _⟩; (focus (simp [results, Tryd.results36, go_sem]; done)); rw [Hb]; first | (refine Lx.nf1 ?_; assumption) | (refine Lx.nf2 Hl) | (refine Lx.nf2 (Hl.trans ?_); assumption) | (refine Lx.nt1 ?_ ?_ Hl <;> assumption) | (refine Lx.nt1 ?_ ?_ (Hl.trans ?_) <;> assumption) | (refine Lx.ne1 ?_ ?_ Hl <;> assumption) | (refine Lx.ne1 ?_ ?_ (Hl.trans ?_) <;> assumption))
      · have Hs := Lib.hid (Lx.run_yes Lx.digitU _ _ hlt hd)
        go_wp2_with (go_at_call 35; refine (digitB _ true _ hd).mono ?_; rintro e w' ⟨rfl, rfl⟩)
        go_round
        case rel => exact ⟨k + 1, by omega, by omega, by go_num, by rw [Hr.out, Hs.out]; omega⟩
        case measure => simp [intOf]; omega
    · have Hs := Lib.hid (Lx.run_end Lx.digitU s.data.toList k (by show s.size ≤ k; omega))
      go_wp2
      all_goals
        have He : a + n = k := by rw [Hr.out, Hs.out]; rfl
        have Hb := Lx.numOk_eq s a k n h1 He
        have Hl := Lx.lu_end s k hlt
        first
          | (refine bodyPost_ret (v := .tuple #[.agg #[.int .i64 2, .string (s.extract a k), .int .i64 a], .bool false]) ?_ rfl ⟨token_ret _ _ _ _ _ _ _ He ?_, (Below.refl _ _).alloc (Nat.le_refl _) _⟩; (focus (simp [results, Tryd.results36, go_sem]; done)); rw [Hb]; first | (refine Lx.nf1 ?_; assumption) | (refine Lx.nf2 Hl) | (refine Lx.nf2 (Hl.trans ?_); assumption) | (refine Lx.nt1 ?_ ?_ Hl <;> assumption) | (refine Lx.nt1 ?_ ?_ (Hl.trans ?_) <;> assumption) | (refine Lx.ne1 ?_ ?_ Hl <;> assumption) | (refine Lx.ne1 ?_ ?_ (Hl.trans ?_) <;> assumption))
          | (refine bodyPost_ret (v := .tuple #[.agg #[.int .i64 2, .string (s.extract a k), .int .i64 a], .bool true]) ?_ rfl ⟨token_ret _ _ _ _ _ _ _ He ?_, (Below.refl _ _).alloc (Nat.le_refl _) _⟩; (focus (simp [results, Tryd.results36, go_sem]; done)); rw [Hb]; first | (refine Lx.nf1 ?_; assumption) | (refine Lx.nf2 Hl) | (refine Lx.nf2 (Hl.trans ?_); assumption) | (refine Lx.nt1 ?_ ?_ Hl <;> assumption) | (refine Lx.nt1 ?_ ?_ (Hl.trans ?_) <;> assumption) | (refine Lx.ne1 ?_ ?_ Hl <;> assumption) | (refine Lx.ne1 ?_ ?_ (Hl.trans ?_) <;> assumption))
          | (refine bodyPost_ret (v := .tuple #[.agg #[.int .i64 2, .string (s.extract a k), .int .i64 a], .bool ((k : Int) == a + 1)]) ?_ rfl ⟨token_ret _ _ _ _ _ _ _ He ?_, (Below.refl _ _).alloc (Nat.le_refl _) _⟩; (focus (simp [results, Tryd.results36, go_sem]; done)); rw [Hb]; first | (refine Lx.nf1 ?_; assumption) | (refine Lx.nf2 Hl) | (refine Lx.nf2 (Hl.trans ?_); assumption) | (refine Lx.nt1 ?_ ?_ Hl <;> assumption) | (refine Lx.nt1 ?_ ?_ (Hl.trans ?_) <;> assumption) | (refine Lx.ne1 ?_ ?_ Hl <;> assumption) | (refine Lx.ne1 ?_ ?_ (Hl.trans ?_) <;> assumption))

end Go.Proofs.YtpggfkdfchafhaaDoor
