/-
  The reference's Name and Path.
-/
import Derived.Test.YtbgpboiblggmiaaGreatDoorQVra
import Derived.Test.YtbgpboiblggmiaaGreatDoorQLwu
set_option linter.unusedVariables false
set_option linter.unusedSimpArgs false
namespace Go.Proofs.YtbgpboiblggmiaaGreatDoor
open Go.RowKit
open Px (St T D Res)

/-- a call whose yes says P -/
def RB (P : Prop) (w : World) (e : Ending) (w' : World) : Prop := ∃ b : Bool, e = .returned (.bool b) ∧ (b = true → P) ∧ Below w.heap.size w w'
def NInv (x : Px.Str) (k : Nat) : Prop := ∀ (j : Nat) d, j < k → x[j]? = some d → Lx.wordU d = true ∧ (j = 0 → Lx.letterU d = true)
theorem name_step {x : Px.Str} {k : Nat} {c : UInt8} (h : NInv x k) (hc : x[k]? = some c) (hw : Lx.wordU c = true) (hl : k = 0 → Lx.letterU c = true) : NInv x (k + 1) := by
  intro j d hj hd
  rcases Nat.lt_succ_iff_lt_or_eq.1 hj with h1 | h1
  · exact h j d h1 hd
  · subst h1
    rw [hc] at hd
    cases hd
    exact ⟨hw, hl⟩
theorem name_of {x : Px.Str} (h : NInv x x.length) (h1 : 1 ≤ x.length) (h2 : x.length ≤ 16) (hk : Px.isKey x = false) : NameOk x :=
  ⟨⟨h1, h2⟩, fun c r e => (h 0 c h1 (by rw [e]; rfl)).2 rfl, fun c hc => by
    obtain ⟨j, hj, he⟩ := List.mem_iff_getElem.1 hc
    exact (h j c hj (by rw [List.getElem?_eq_getElem hj, he])).1, hk⟩

set_option maxRecDepth 100000 in
set_option maxHeartbeats 8000000 in
theorem rname_any (x : Px.Str) (w : World) (hx : x.length ≤ maxLen) : Calls Tryz.prog 107 #[.string ⟨x.toArray⟩] w (RB (NameOk x) w) := by
  have hmax : maxLen ≤ 9223372036854775807 := by decide
  have hx9 : x.length ≤ 9223372036854775807 := by omega
  clear hx hmax
  go_enter Tryz.func107, Tryz.ntmps107
  go_wp2_with fail
  go_loopw [3] (fun i wr => ∃ k : Nat, k ≤ x.length ∧ i = .int .i64 k ∧ Hid (NInv x k) ∧ wr = w) (fun i _ => x.length - (intOf i).toNat)
  case atStart => exact ⟨0, by omega, rfl, Lib.hid (fun j d h => by omega), rfl⟩
  case round =>
    obtain ⟨k, hk', rfl, Hinv, rfl⟩ := hrel
    by_cases hlt : k < x.length
    · have hrunk : ∀ W, (Instr.index 9 (.string ⟨x.toArray⟩) (.int .i64 (k : Int))).run Tryz.prog W = .ok (.int .u8 ((x[k]'hlt).toNat : Int)) W := idx_str ⟨x.toArray⟩ _ k rfl hlt
      obtain ⟨c, hc⟩ : ∃ c, c = x[k]'hlt := ⟨_, rfl⟩
      rw [← hc] at hrunk
      have Hk := Lib.hid (show x[k]? = some c by rw [hc]; exact List.getElem?_eq_getElem hlt)
      obtain ⟨n, hn⟩ : ∃ n : Int, n = (c.toNat : Int) := ⟨_, rfl⟩
      rw [← hn] at hrunk
      have hn0 : 0 ≤ n := by omega
      have hn255 : n ≤ 255 := by have := c.toNat_lt; omega
      have Hn9 := Lib.hid hn
      clear hc hn
      have hcase : (65 ≤ n ∧ n ≤ 90) ∨ (97 ≤ n ∧ n ≤ 122) ∨ (n < 48) ∨ (48 ≤ n ∧ n ≤ 57) ∨ (58 ≤ n ∧ n < 65) ∨ (90 < n ∧ n < 97 ∧ n ≠ 95) ∨ (n = 95) ∨ (122 < n) := by omega
      rcases hcase with hc | hc | hc | hc | hc | hc | hc | hc
      · have hl : Lx.letterU c = true := by unfold Lx.letterU Lx.letter; rw [← Hn9.out]; simp; omega
        have hw : Lx.wordU c = true := by unfold Lx.wordU Lx.word Lx.letter Lx.digit; rw [← Hn9.out]; simp; omega
        have Hl := Lib.hid hl
        have Hw := Lib.hid hw
        have d1 : decide (65 ≤ n) = true := decide_eq_true (by omega)
        have d2 : decide (n ≤ 90) = true := decide_eq_true (by omega)
        clear hl hw hc
        go_wp2_with fail
        go_roundw
        case rel => exact ⟨k + 1, by omega, by go_num, name_step Hinv.out Hk.out (by rw [Hw.out]) (by rw [Hl.out]; simp), by first | trivial | rfl⟩
        case measure => simp [intOf]; omega
      · have hl : Lx.letterU c = true := by unfold Lx.letterU Lx.letter; rw [← Hn9.out]; simp; omega
        have hw : Lx.wordU c = true := by unfold Lx.wordU Lx.word Lx.letter Lx.digit; rw [← Hn9.out]; simp; omega
        have Hl := Lib.hid hl
        have Hw := Lib.hid hw
        have d1 : decide (65 ≤ n) = true := decide_eq_true (by omega)
        have d2 : decide (n ≤ 90) = false := decide_eq_false (by omega)
        have d3 : decide (97 ≤ n) = true := decide_eq_true (by omega)
        have d4 : decide (n ≤ 122) = true := decide_eq_true (by omega)
        clear hl hw hc
        go_wp2_with fail
        go_roundw
        case rel => exact ⟨k + 1, by omega, by go_num, name_step Hinv.out Hk.out (by rw [Hw.out]) (by rw [Hl.out]; simp), by first | trivial | rfl⟩
        case measure => simp [intOf]; omega
      · have hl : Lx.letterU c = false := by unfold Lx.letterU Lx.letter; rw [← Hn9.out]; simp; omega
        have hw : Lx.wordU c = false := by unfold Lx.wordU Lx.word Lx.letter Lx.digit; rw [← Hn9.out]; simp; omega
        have Hl := Lib.hid hl
        have Hw := Lib.hid hw
        have d1 : decide (65 ≤ n) = false := decide_eq_false (by omega)
        have d3 : decide (97 ≤ n) = false := decide_eq_false (by omega)
        have d5 : decide (n < 48) = true := decide_eq_true (by omega)
        have d7 : (n != 95) = true := by exact bne_iff_ne.2 (by omega)
        clear hl hw hc
        by_cases hk9 : k = 0
        · have d9 : ((k : Int) == 0) = true := by rw [hk9]; rfl
          clear hk9
          go_wp2_with fail
          go_ret
          exact ⟨false, rfl, fun h => (by cases h), Below.refl _ _⟩
        · have d9 : ((k : Int) == 0) = false := beq_eq_false_iff_ne.2 (by omega)
          go_wp2_with fail
          go_ret
          exact ⟨false, rfl, fun h => (by cases h), Below.refl _ _⟩
      · have hl : Lx.letterU c = false := by unfold Lx.letterU Lx.letter; rw [← Hn9.out]; simp; omega
        have hw : Lx.wordU c = true := by unfold Lx.wordU Lx.word Lx.letter Lx.digit; rw [← Hn9.out]; simp; omega
        have Hl := Lib.hid hl
        have Hw := Lib.hid hw
        have d1 : decide (65 ≤ n) = false := decide_eq_false (by omega)
        have d3 : decide (97 ≤ n) = false := decide_eq_false (by omega)
        have d5 : decide (n < 48) = false := decide_eq_false (by omega)
        have d6 : decide (57 < n) = false := decide_eq_false (by omega)
        have d7 : (n != 95) = true := by exact bne_iff_ne.2 (by omega)
        clear hl hw hc
        by_cases hk9 : k = 0
        · have d9 : ((k : Int) == 0) = true := by rw [hk9]; rfl
          clear hk9
          go_wp2_with fail
          go_ret
          exact ⟨false, rfl, fun h => (by cases h), Below.refl _ _⟩
        · have d9 : ((k : Int) == 0) = false := beq_eq_false_iff_ne.2 (by omega)
          go_wp2_with fail
          go_roundw
          case rel => exact ⟨k + 1, by omega, by go_num, name_step Hinv.out Hk.out (by rw [Hw.out]) (by intro h; omega), by first | trivial | rfl⟩
          case measure => simp [intOf]; omega
      · have hl : Lx.letterU c = false := by unfold Lx.letterU Lx.letter; rw [← Hn9.out]; simp; omega
        have hw : Lx.wordU c = false := by unfold Lx.wordU Lx.word Lx.letter Lx.digit; rw [← Hn9.out]; simp; omega
        have Hl := Lib.hid hl
        have Hw := Lib.hid hw
        have d1 : decide (65 ≤ n) = false := decide_eq_false (by omega)
        have d3 : decide (97 ≤ n) = false := decide_eq_false (by omega)
        have d5 : decide (n < 48) = false := decide_eq_false (by omega)
        have d6 : decide (57 < n) = true := decide_eq_true (by omega)
        have d7 : (n != 95) = true := by exact bne_iff_ne.2 (by omega)
        clear hl hw hc
        by_cases hk9 : k = 0
        · have d9 : ((k : Int) == 0) = true := by rw [hk9]; rfl
          clear hk9
          go_wp2_with fail
          go_ret
          exact ⟨false, rfl, fun h => (by cases h), Below.refl _ _⟩
        · have d9 : ((k : Int) == 0) = false := beq_eq_false_iff_ne.2 (by omega)
          go_wp2_with fail
          go_ret
          exact ⟨false, rfl, fun h => (by cases h), Below.refl _ _⟩
      · have hl : Lx.letterU c = false := by unfold Lx.letterU Lx.letter; rw [← Hn9.out]; simp; omega
        have hw : Lx.wordU c = false := by unfold Lx.wordU Lx.word Lx.letter Lx.digit; rw [← Hn9.out]; simp; omega
        have Hl := Lib.hid hl
        have Hw := Lib.hid hw
        have d1 : decide (65 ≤ n) = true := decide_eq_true (by omega)
        have d2 : decide (n ≤ 90) = false := decide_eq_false (by omega)
        have d3 : decide (97 ≤ n) = false := decide_eq_false (by omega)
        have d5 : decide (n < 48) = false := decide_eq_false (by omega)
        have d6 : decide (57 < n) = true := decide_eq_true (by omega)
        have d7 : (n != 95) = true := by exact bne_iff_ne.2 (by omega)
        clear hl hw hc
        by_cases hk9 : k = 0
        · have d9 : ((k : Int) == 0) = true := by rw [hk9]; rfl
          clear hk9
          go_wp2_with fail
          go_ret
          exact ⟨false, rfl, fun h => (by cases h), Below.refl _ _⟩
        · have d9 : ((k : Int) == 0) = false := beq_eq_false_iff_ne.2 (by omega)
          go_wp2_with fail
          go_ret
          exact ⟨false, rfl, fun h => (by cases h), Below.refl _ _⟩
      · have hl : Lx.letterU c = false := by unfold Lx.letterU Lx.letter; rw [← Hn9.out]; simp; omega
        have hw : Lx.wordU c = true := by unfold Lx.wordU Lx.word Lx.letter Lx.digit; rw [← Hn9.out]; simp; omega
        have Hl := Lib.hid hl
        have Hw := Lib.hid hw
        have d1 : decide (65 ≤ n) = true := decide_eq_true (by omega)
        have d2 : decide (n ≤ 90) = false := decide_eq_false (by omega)
        have d3 : decide (97 ≤ n) = false := decide_eq_false (by omega)
        have d5 : decide (n < 48) = false := decide_eq_false (by omega)
        have d6 : decide (57 < n) = true := decide_eq_true (by omega)
        have d7 : (n != 95) = false := by rw [show n = 95 by omega]; rfl
        clear hl hw hc
        by_cases hk9 : k = 0
        · have d9 : ((k : Int) == 0) = true := by rw [hk9]; rfl
          clear hk9
          go_wp2_with fail
          go_ret
          exact ⟨false, rfl, fun h => (by cases h), Below.refl _ _⟩
        · have d9 : ((k : Int) == 0) = false := beq_eq_false_iff_ne.2 (by omega)
          go_wp2_with fail
          go_roundw
          case rel => exact ⟨k + 1, by omega, by go_num, name_step Hinv.out Hk.out (by rw [Hw.out]) (by intro h; omega), by first | trivial | rfl⟩
          case measure => simp [intOf]; omega
      · have hl : Lx.letterU c = false := by unfold Lx.letterU Lx.letter; rw [← Hn9.out]; simp; omega
        have hw : Lx.wordU c = false := by unfold Lx.wordU Lx.word Lx.letter Lx.digit; rw [← Hn9.out]; simp; omega
        have Hl := Lib.hid hl
        have Hw := Lib.hid hw
        have d1 : decide (65 ≤ n) = true := decide_eq_true (by omega)
        have d2 : decide (n ≤ 90) = false := decide_eq_false (by omega)
        have d3 : decide (97 ≤ n) = true := decide_eq_true (by omega)
        have d4 : decide (n ≤ 122) = false := decide_eq_false (by omega)
        have d5 : decide (n < 48) = false := decide_eq_false (by omega)
        have d6 : decide (57 < n) = true := decide_eq_true (by omega)
        have d7 : (n != 95) = true := by exact bne_iff_ne.2 (by omega)
        clear hl hw hc
        by_cases hk9 : k = 0
        · have d9 : ((k : Int) == 0) = true := by rw [hk9]; rfl
          clear hk9
          go_wp2_with fail
          go_ret
          exact ⟨false, rfl, fun h => (by cases h), Below.refl _ _⟩
        · have d9 : ((k : Int) == 0) = false := beq_eq_false_iff_ne.2 (by omega)
          go_wp2_with fail
          go_ret
          exact ⟨false, rfl, fun h => (by cases h), Below.refl _ _⟩
    · obtain rfl : k = x.length := by omega
      by_cases h1 : 1 ≤ x.length
      · by_cases h2 : x.length ≤ 16
        · have d1 : decide (1 ≤ (x.length : Int)) = true := decide_eq_true (by omega)
          have d2 : decide ((x.length : Int) ≤ 16) = true := decide_eq_true (by omega)
          go_wp2_with fail
          refine (rkey_any x _).mono ?_
          rintro e w2 ⟨rfl, hb2⟩
          have Hb2 := Lib.hid hb2
          clear hb2
          cases hkey : Px.isKey x with
          | true =>
            go_wp2_with fail
            go_ret
            exact ⟨false, rfl, fun h => (by cases h), Hb2.out⟩
          | false =>
            go_wp2_with fail
            go_ret
            exact ⟨true, rfl, fun _ => name_of Hinv.out h1 h2 hkey, Hb2.out⟩
        · have d1 : decide (1 ≤ (x.length : Int)) = true := decide_eq_true (by omega)
          have d2 : decide ((x.length : Int) ≤ 16) = false := decide_eq_false (by omega)
          go_wp2_with fail
          go_ret
          exact ⟨false, rfl, fun h => (by cases h), Below.refl _ _⟩
      · have d1 : decide (1 ≤ (x.length : Int)) = false := decide_eq_false (by omega)
        go_wp2_with fail
        go_ret
        exact ⟨false, rfl, fun h => (by cases h), Below.refl _ _⟩
end Go.Proofs.YtbgpboiblggmiaaGreatDoor

