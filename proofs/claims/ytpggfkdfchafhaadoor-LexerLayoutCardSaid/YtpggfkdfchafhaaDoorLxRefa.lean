/-
  Walks over the leaf functions of the reference lexer.
-/
import Derived.Test.YtpggfkdfchafhaaDoorProg
import Derived.Test.YtpggfkdfchafhaaDoorLxSpec
import Derived.WalkKit
import Derived.WalkSpells
import Derived.Lib.Hide
import Derived.Lib.Strings
import Derived.WalkLawsBesides
namespace Go.Proofs.YtpggfkdfchafhaaDoor
open Go.RowKit

theorem ret_bool {a b : Bool} (h : a = b) : Ending.returned (.bool a) = .returned (.bool b) := by rw [h]

set_option maxHeartbeats 400000 in
theorem white_any (c : Int) (w : World) :
    Calls Tryd.prog 24 #[.int .u8 c] w fun e w' => e = .returned (.bool (Lx.white c)) ∧ w = w' := by
  go_enter Tryd.func24, Tryd.ntmps24
  go_wp2
  all_goals go_ret
  all_goals exact ⟨ret_bool (by first | rfl | simp [Lx.white, *]), rfl⟩

theorem letter_any (c : Int) (w : World) :
    Calls Tryd.prog 33 #[.int .u8 c] w fun e w' => e = .returned (.bool (Lx.letter c)) ∧ w = w' := by
  go_enter Tryd.func33, Tryd.ntmps33
  go_wp2
  all_goals go_ret
  all_goals exact ⟨ret_bool (by rw [Bool.eq_iff_iff]; simp [Lx.letter] <;> omega), rfl⟩

theorem digit_any (c : Int) (w : World) :
    Calls Tryd.prog 35 #[.int .u8 c] w fun e w' => e = .returned (.bool (Lx.digit c)) ∧ w = w' := by
  go_enter Tryd.func35, Tryd.ntmps35
  go_wp2
  all_goals go_ret
  all_goals exact ⟨ret_bool (by rw [Bool.eq_iff_iff]; simp [Lx.digit] <;> omega), rfl⟩

theorem begins_any (s t : ByteArray) (a : Int) (w : World) (h0 : 0 ≤ a) (h1 : a ≤ s.size) (hs : s.size ≤ 4000) (ht : t.size ≤ 1000) :
    Calls Tryd.prog 32 #[.string s, .int .i64 a, .string t] w fun e w' => e = .returned (.bool (Lx.begins s.data.toList t.data.toList a.toNat)) ∧ w = w' := by
  go_enter Tryd.func32, Tryd.ntmps32
  go_wp2
  all_goals go_ret
  · refine ⟨ret_bool ?_, rfl⟩
    rw [ByteArray.toList_eq, ByteArray.toList_eq, Lib.extract_data]
    unfold Lx.begins
    rw [show (a + (t.size : Int)).toNat - a.toNat = t.size from by omega]
    rfl
  · refine ⟨ret_bool ?_, rfl⟩
    unfold Lx.begins
    symm
    apply beq_eq_false_iff_ne.2
    intro h
    have hl := congrArg List.length h
    have e1 : s.data.toList.length = s.size := rfl
    have e2 : t.data.toList.length = t.size := rfl
    rw [List.length_take, List.length_drop, e1, e2] at hl
    omega

theorem begins2 (s : ByteArray) (a : Int) (b : Bool) (w : World) (h0 : 0 ≤ a) (h1 : a ≤ s.size) (hs : s.size ≤ 4000) (hb : Lx.begins s.data.toList [47, 47] a.toNat = b) :
    Calls Tryd.prog 32 #[.string s, .int .i64 a, .string { data := #[47, 47] }] w fun e w' => e = .returned (.bool b) ∧ w = w' := by
  subst hb
  exact begins_any s { data := #[47, 47] } a w h0 h1 hs (by decide)

theorem whiteB (c : Int) (b : Bool) (w : World) (hb : Lx.white c = b) :
    Calls Tryd.prog 24 #[.int .u8 c] w fun e w' => e = .returned (.bool b) ∧ w = w' := by
  subst hb
  exact white_any c w

set_option maxHeartbeats 400000 in
theorem skip_any (s : ByteArray) (a : Nat) (w : World) (h1 : a ≤ s.size) (hs : s.size ≤ 4000) :
    Calls Tryd.prog 22 #[.string s, .int .i64 a] w fun e w' => e = .returned (.int .i64 ((a + Lx.skip false (s.data.toList.drop a) : Nat) : Int)) ∧ w = w' := by
  obtain ⟨R, hR⟩ : ∃ R, R = a + Lx.skip false (s.data.toList.drop a) := ⟨_, rfl⟩
  have HR := Lib.hid hR
  rw [← hR]
  clear hR
  go_enter Tryd.func22, Tryd.ntmps22
  go_wp2
  go_loop [1] (fun t => ∃ k : Nat, k ≤ s.size ∧ t = .int .i64 k ∧ R = k + Lx.skip false (s.data.toList.drop k)) (fun t => s.size - (intOf t).toNat)
  case atStart => exact ⟨a, h1, rfl, HR.out⟩
  case round =>
    obtain ⟨k, hk, rfl, hr⟩ := hrel
    have Hr := Lib.hid hr
    clear hr
    have hlen : s.data.toList.length = s.size := rfl
    by_cases hlt : k < s.size
    · cases hb : Lx.begins s.data.toList [47, 47] k
      · cases hw : Lx.whiteU s.data.toList[k]
        · have Hs := Lib.hid (Lx.skip_none _ _ hlt hb hw)
          go_wp2_with (first | (go_at_call 32; refine (begins2 _ _ false _ (by omega) (by omega) hs (by rw [Int.toNat_natCast]; exact hb)).mono ?_; rintro e w' ⟨rfl, rfl⟩) | (go_at_call 24; refine (whiteB _ false _ hw).mono ?_; rintro e w' ⟨rfl, rfl⟩))
          go_ret
          exact ⟨by rw [Hr.out, Hs.out]; rfl, rfl⟩
        · have Hs := Lib.hid (Lx.skip_white _ _ hlt hw)
          go_wp2_with (first | (go_at_call 32; refine (begins2 _ _ false _ (by omega) (by omega) hs (by rw [Int.toNat_natCast]; exact hb)).mono ?_; rintro e w' ⟨rfl, rfl⟩) | (go_at_call 24; refine (whiteB _ true _ hw).mono ?_; rintro e w' ⟨rfl, rfl⟩))
          go_round
          case rel => exact ⟨k + 1, by omega, by go_num, by rw [Hr.out, Hs.out]; omega⟩
          case measure => simp [intOf]; omega
      · have Hs := Lib.hid (Lx.skip_note _ _ hlt hb)
        have h47 := Lib.hid ((Lx.begins2_iff _ _ hlt).1 hb).1
        go_wp2_with (first | (go_at_call 32; refine (begins2 _ _ true _ (by omega) (by omega) hs (by rw [Int.toNat_natCast]; exact hb)).mono ?_; rintro e w' ⟨rfl, rfl⟩))
        clear hb
        go_loop [1] (fun t => ∃ j : Nat, k ≤ j ∧ j ≤ s.size ∧ t = .int .i64 j ∧ R = j + Lx.skip true (s.data.toList.drop j)) (fun t => s.size - (intOf t).toNat)
        case atStart => exact ⟨k, by omega, hk, rfl, by rw [Hr.out, Hs.out]⟩
        case round =>
          obtain ⟨j, hkj, hj, rfl, hr⟩ := hrel
          have Hj := Lib.hid hr
          clear hr
          by_cases hjt : j < s.size
          · by_cases hc : s.data.toList[j] = 10
            · have Ho := Lib.hid (Lx.skip_out _ _ hjt hc)
              have hkj' : k < j := by
                rcases Nat.lt_or_ge k j with h | h
                · exact h
                · exfalso
                  obtain rfl : k = j := by omega
                  rw [h47.out] at hc
                  exact absurd hc (by decide)
              have hc' : ((s[j].toNat : Int) != 10) = false := by
                rw [show s[j] = s.data.toList[j] from rfl, hc]; rfl
              clear hc
              go_wp2
              go_round
              case rel => exact ⟨j, by omega, rfl, by rw [Hj.out, Ho.out]⟩
              case measure => simp [intOf]; omega
            · have Ho := Lib.hid (Lx.skip_in _ _ hjt hc)
              have hc' : ((s[j].toNat : Int) != 10) = true := by
                rw [bne_iff_ne]
                intro h
                apply hc
                apply UInt8.toNat_inj.1
                show s[j].toNat = 10
                omega
              clear hc
              go_wp2
              go_round
              case rel => exact ⟨j + 1, by omega, by omega, by go_num, by rw [Hj.out, Ho.out]; omega⟩
              case measure => simp [intOf]; omega
          · go_wp2
            go_round
            case rel => exact ⟨j, by omega, rfl, by rw [Hj.out, Lx.skip_end _ _ _ (by omega), Lx.skip_end _ _ _ (by omega)]⟩
            case measure => simp [intOf]; omega
    · clear hlen
      go_wp2
      go_ret
      exact ⟨by rw [Hr.out, Lx.skip_end _ _ _ (by simpa using hlt)]; rfl, rfl⟩

end Go.Proofs.YtpggfkdfchafhaaDoor
