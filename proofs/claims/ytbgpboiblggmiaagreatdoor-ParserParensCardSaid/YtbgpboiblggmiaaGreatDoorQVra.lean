/-
  The reference's readings of a node's texts and numbers: number, has, Words, Key, Name.
-/
import Derived.Test.YtbgpboiblggmiaaGreatDoorQPeb
set_option linter.unusedVariables false
set_option linter.unusedSimpArgs false
namespace Go.Proofs.YtbgpboiblggmiaaGreatDoor
open Go.RowKit
open Px (St T D Res)

set_option maxRecDepth 100000 in
set_option maxHeartbeats 1000000 in
theorem rnumber_any (n : Int) (w : World) : Calls Tryz.prog 104 #[.int .i64 n] w fun e w' => e = .returned (.bool (decide (0 ≤ n) && decide (n ≤ 999999999))) ∧ w' = w := by
  go_enter Tryz.func104, Tryz.ntmps104
  go_wp2_with fail
  all_goals (go_ret; exact ⟨ret_bool (by first | rfl | (rw [Bool.eq_iff_iff]; simp; omega) | (simp; omega)), rfl⟩)
theorem u8_ne {c d : UInt8} (h : c ≠ d) : ((c.toNat : Int) == (d.toNat : Int)) = false := beq_eq_false_iff_ne.2 (fun e => h (UInt8.toNat_inj.1 (by omega)))

set_option maxRecDepth 100000 in
set_option maxHeartbeats 1000000 in
theorem rhas_any (l : List UInt8) (c : UInt8) (w : World) (hl : l.length ≤ 16) : Calls Tryz.prog 103 #[.string ⟨l.toArray⟩, .int .u8 c.toNat] w fun e w' => e = .returned (.bool (l.contains c)) ∧ w' = w := by
  go_enter Tryz.func103, Tryz.ntmps103
  go_wp2_with fail
  go_loopw [5] (fun i wr => ∃ k : Nat, k ≤ l.length ∧ i = .int .i64 k ∧ (∀ (j : Nat) d, j < k → l[j]? = some d → d ≠ c) ∧ wr = w) (fun i _ => l.length - (intOf i).toNat)
  case atStart => exact ⟨0, by omega, rfl, fun j d h => by omega, rfl⟩
  case round =>
    obtain ⟨k, hk', rfl, hn, rfl⟩ := hrel
    by_cases hlt : k < l.length
    · have hrunk : ∀ W, (Instr.index 9 (.string ⟨l.toArray⟩) (.int .i64 (k : Int))).run Tryz.prog W = .ok (.int .u8 ((l[k]'hlt).toNat : Int)) W := idx_str ⟨l.toArray⟩ _ k rfl hlt
      obtain ⟨d, hd⟩ : ∃ d, d = l[k]'hlt := ⟨_, rfl⟩
      rw [← hd] at hrunk
      have Hd := Lib.hid hd
      have Hn := Lib.hid hn
      clear hd hn
      by_cases hc : d = c
      · subst hc
        go_wp2_with fail
        go_ret
        refine ⟨ret_bool (Eq.symm ?_), rfl⟩
        rw [List.contains_iff_mem, Hd.out]
        exact List.getElem_mem hlt
      · have h1 := u8_ne hc
        go_wp2_with fail
        go_roundw
        case rel =>
          refine ⟨k + 1, by omega, by go_num, fun j x hj hx => ?_, by first | trivial | rfl⟩
          rcases Nat.lt_succ_iff_lt_or_eq.1 hj with h | h
          · exact Hn.out j x h hx
          · subst h
            have : x = d := by rw [Hd.out]; exact ((List.getElem?_eq_some_iff.1 hx).2).symm
            rw [this]
            exact hc
        case measure => simp [intOf]; omega
    · have Hn := Lib.hid hn
      clear hn
      go_wp2_with fail
      go_ret
      refine ⟨ret_bool (Eq.symm ?_), rfl⟩
      rw [← Bool.not_eq_true, List.contains_iff_mem]
      intro hm
      obtain ⟨j, hj, he⟩ := List.mem_iff_getElem.1 hm
      exact Hn.out j c (by omega) (by rw [List.getElem?_eq_getElem hj, he]) rfl

def keyCells : Array Value := (Px.keys.map fun x => Value.string ⟨x.toArray⟩).toArray
set_option maxRecDepth 100000 in
set_option maxHeartbeats 2000000 in
theorem rwords_any (w : World) : Calls Tryz.prog 151 #[] w fun e w' => e = .returned (.slice (some ⟨w.heap.size, 0, none⟩) 37 37) ∧ w' = w.alloc (.cells keyCells 9) := by
  go_enter Tryz.func151, Tryz.ntmps151
  go_wp2_with fail
  go_ret
  exact ⟨rfl, rfl⟩
theorem keys_len' : Px.keys.length = 37 := by rfl
set_option maxRecDepth 100000 in
set_option maxHeartbeats 2000000 in
theorem rkey_any (x : Px.Str) (w : World) : Calls Tryz.prog 132 #[.string ⟨x.toArray⟩] w fun e w' => e = .returned (.bool (Px.isKey x)) ∧ Below w.heap.size w w' := by
  go_enter Tryz.func132, Tryz.ntmps132
  go_wp2_with fail
  refine (rwords_any w).mono ?_
  rintro e w1 ⟨rfl, hw1⟩
  have hbw : Below w.heap.size w w1 := by rw [hw1]; exact (Below.refl _ _).alloc (Nat.le_refl _) _
  have Hcell := Lib.hid (show ∀ k y, Px.keys[k]? = some y → w1.cell? ⟨w.heap.size, k, none⟩ = some (.string ⟨y.toArray⟩) by
    intro k y hy
    rw [hw1, cell_of_obj (obj_new _ _)]
    unfold keyCells
    simp [hy])
  clear hw1
  go_wp2_with fail
  go_loopw [4] (fun i wr => ∃ k : Nat, k ≤ 37 ∧ i = .int .i64 k ∧ (∀ (j : Nat) y, j < k → Px.keys[j]? = some y → y ≠ x) ∧ wr = w1) (fun i _ => 37 - (intOf i).toNat)
  case atStart => exact ⟨0, by omega, rfl, fun j d h => by omega, rfl⟩
  case round =>
    obtain ⟨k, hk', rfl, hn, rfl⟩ := hrel
    by_cases hlt : k < 37
    · obtain ⟨y, hy⟩ : ∃ y, Px.keys[k]? = some y := ⟨_, List.getElem?_eq_getElem (by rw [keys_len']; exact hlt)⟩
      have hcell := Hcell.out k y hy
      have hk0 : (0 : Int) ≤ (k : Int) := Int.natCast_nonneg _
      have hk1 : (k : Int) < 37 := by omega
      have Hy := Lib.hid hy
      have Hn := Lib.hid hn
      clear hy hn
      by_cases hc : y = x
      · subst hc
        go_wp2_with fail
        go_ret
        refine ⟨ret_bool (Eq.symm ?_), hbw⟩
        unfold Px.isKey
        rw [List.contains_iff_mem]
        exact List.mem_of_getElem? Hy.out
      · have h1 := text_ne hc
        have h2 := text_beq hc
        go_wp2_with fail
        go_roundw
        case rel =>
          refine ⟨k + 1, by omega, by go_num, fun j z hj hz => ?_, by first | trivial | rfl⟩
          rcases Nat.lt_succ_iff_lt_or_eq.1 hj with h | h
          · exact Hn.out j z h hz
          · subst h
            have := Hy.out.symm.trans hz
            cases this
            exact hc
        case measure => simp [intOf]; omega
    · have Hn := Lib.hid hn
      clear hn
      go_wp2_with fail
      go_ret
      refine ⟨ret_bool (Eq.symm ?_), hbw⟩
      unfold Px.isKey
      rw [← Bool.not_eq_true, List.contains_iff_mem]
      intro hm
      obtain ⟨j, hj, he⟩ := List.mem_iff_getElem.1 hm
      exact Hn.out j x (by rw [keys_len'] at hj; omega) (by rw [List.getElem?_eq_getElem hj, he]) rfl
end Go.Proofs.YtbgpboiblggmiaaGreatDoor

