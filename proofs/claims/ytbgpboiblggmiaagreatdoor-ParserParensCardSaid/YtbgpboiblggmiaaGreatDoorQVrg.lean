/-
  The reference's digits, expression, Text.
-/
import Derived.Test.YtbgpboiblggmiaaGreatDoorQVrf
set_option linter.unusedVariables false
set_option linter.unusedSimpArgs false
namespace Go.Proofs.YtbgpboiblggmiaaGreatDoor
open Go.RowKit
open Px (St T D Res)

def lenS : Value → Nat
  | .string b => if b.size = 0 then 1 else 0
  | _ => 0
/-- the loop of digits: k is left, x is laid -/
structure DInv (N k : Nat) (x : List UInt8) : Prop where
  len : x.length ≤ 9
  small : k < 10 ^ (9 - x.length)
  val : (x = [] ∧ k = N) ∨ (x ≠ [] ∧ dig N = if k = 0 then x else dig k ++ x)
theorem pow_step {k m : Nat} (h : k < 10 ^ m) (hm : 1 ≤ m) : k / 10 < 10 ^ (m - 1) := by
  obtain ⟨j, rfl⟩ : ∃ j, m = j + 1 := ⟨m - 1, by omega⟩
  rw [Nat.pow_succ] at h
  rw [Nat.add_sub_cancel]
  omega
theorem dinv_step {N k : Nat} {x : List UInt8} (h : DInv N k x) (hk : 0 < k ∨ x = []) : DInv N (k / 10) (UInt8.ofNat (48 + k % 10) :: x) := by
  obtain ⟨h1, h2, h3⟩ := h
  have hl9 : x.length < 9 := by
    rcases Nat.lt_or_ge x.length 9 with h | h
    · exact h
    · have e9 : x.length = 9 := by omega
      rw [e9] at h2
      simp at h2
      rcases hk with hk | hk
      · omega
      · rw [hk] at e9; simp at e9
  refine ⟨by rw [List.length_cons]; omega, ?_, .inr ⟨by simp, ?_⟩⟩
  · rw [List.length_cons, show 9 - (x.length + 1) = 9 - x.length - 1 by omega]
    exact pow_step h2 (by omega)
  · have hd : dig k ++ x = if k / 10 = 0 then UInt8.ofNat (48 + k % 10) :: x else dig (k / 10) ++ (UInt8.ofNat (48 + k % 10) :: x) := by
      by_cases h10 : k < 10
      · rw [dig_small h10, if_pos (by omega), Nat.mod_eq_of_lt h10]
        rfl
      · rw [dig_big h10, if_neg (by omega)]
        simp
    rcases h3 with ⟨rfl, rfl⟩ | ⟨hx, h3⟩
    · rw [← hd]; simp
    · rw [h3, if_neg (by rcases hk with hk | hk; · omega
                         · exact absurd hk hx), hd]
theorem cons_app (c : UInt8) (x : List UInt8) : (⟨#[c]⟩ : ByteArray) ++ ⟨x.toArray⟩ = ⟨(c :: x).toArray⟩ := by
  apply ByteArray.ext
  simp
theorem lens_app (c : UInt8) (b : ByteArray) : lenS (.string ((⟨#[c]⟩ : ByteArray) ++ b)) = 0 := by
  show (if ((⟨#[c]⟩ : ByteArray) ++ b).size = 0 then 1 else 0) = 0
  rw [ByteArray.size_append, show (⟨#[c]⟩ : ByteArray).size = 1 from rfl, if_neg (by omega)]
theorem conv_one (w : World) (c : UInt8) : (convert 47 9 (.slice (some ⟨w.heap.size, 0, none⟩) 1 1)).run Tryz.prog (w.alloc (.cells #[.int .u8 (c.toNat : Int)] 5)) = .ok (.string ⟨#[c]⟩) (w.alloc (.cells #[.int .u8 (c.toNat : Int)] 5)) := by
  refine run_convert_bytes_back _ _ _ 5 ⟨w.heap.size, 0, none⟩ 1 [c] Tryz.underlying47 Tryz.underlying5 Tryz.underlying9 ?_
  intro j hj
  have : j = 0 := by simp at hj; exact hj
  subst this
  show (w.alloc _).cell? ⟨w.heap.size, 0, none⟩ = _
  rw [cell_of_obj (obj_new _ _)]
  rfl
set_option maxRecDepth 100000 in
set_option maxHeartbeats 2000000 in
theorem digits_any (n : Int) (h : NumOk n) (w : World) : Calls Tryz.prog 66 #[.int .i64 n] w fun e w' => e = .returned (.string ⟨(dig n.toNat).toArray⟩) ∧ Below w.heap.size w w' := by
  obtain ⟨N, hN⟩ : ∃ N : Nat, n = (N : Int) := ⟨n.toNat, by unfold NumOk at h; omega⟩
  subst hN
  rw [Int.toNat_natCast]
  have hN9 : N ≤ 999999999 := by unfold NumOk at h; omega
  have H0 := Lib.hid (show DInv N N [] from ⟨by simp, by simp; omega, .inl ⟨rfl, rfl⟩⟩)
  clear h
  go_enter Tryz.func66, Tryz.ntmps66
  go_wp2_with fail
  go_loopw [3, 4] (fun s kv wr => ∃ (k : Nat) (x : List UInt8), k ≤ 999999999 ∧ kv = .int .i64 k ∧ s = .string ⟨x.toArray⟩ ∧ Hid (DInv N k x) ∧ Hid (Below w.heap.size w wr)) (fun s kv _ => (intOf kv).toNat + lenS s)
  case atStart => exact ⟨N, [], by omega, rfl, rfl, H0, Lib.hid (Below.refl _ _)⟩
  case round =>
    obtain ⟨k, x, hk9, rfl, rfl, Hi, Hb⟩ := hrel
    have hl := Hi.out.len
    have hk0 : (0 : Int) ≤ (k : Int) := Int.natCast_nonneg _
    have hb0 : (0 : Int) ≤ (k : Int) % 10 := by omega
    have hb9 : (k : Int) % 10 ≤ 9 := by omega
    obtain ⟨c, hc⟩ : ∃ c, c = UInt8.ofNat (48 + k % 10) := ⟨_, rfl⟩
    have hcn : (c.toNat : Int) = 48 + (k : Int) % 10 := by rw [hc, byte_of (Nat.mod_lt _ (by omega))]; omega
    have hconv := conv_one wr c
    rw [hcn] at hconv
    have Hc := Lib.hid hc
    clear hc hcn
    have hq : (k : Int).tdiv 10 = ((k / 10 : Nat) : Int) := by rw [Int.tdiv_eq_ediv_of_nonneg hk0]; omega
    by_cases hkp : 0 < k
    · have c1 : decide ((0 : Int) < (k : Int)) = true := decide_eq_true (by omega)
      have Hst := Lib.hid (dinv_step Hi.out (.inl hkp))
      rw [← Hc.out] at Hst
      go_wp2_with fail
      go_roundw
      case rel => exact ⟨k / 10, c :: x, by omega, by go_num, by rw [cons_app], Hst, Lib.hid (Hb.out.alloc Hb.out.size _)⟩
      case measure => rw [lens_app]; simp only [intOf]; omega
    · have c1 : decide ((0 : Int) < (k : Int)) = false := decide_eq_false (by omega)
      obtain rfl : k = 0 := by omega
      cases x with
      | nil =>
        have Hst := Lib.hid (dinv_step Hi.out (.inr rfl))
        rw [← Hc.out] at Hst
        rw [show (48 : Int) + ((0 : Nat) : Int) % 10 = 48 from rfl] at hconv
        go_wp2_with fail
        go_roundw
        case rel => exact ⟨0, [c], by omega, by go_num, by rfl, Hst, Lib.hid (Hb.out.alloc Hb.out.size _)⟩
        case measure => rw [lens_app, show lenS (.string ⟨#[]⟩) = 1 from rfl]; simp only [intOf]; omega
      | cons d x =>
        have hdig : dig N = d :: x := by
          rcases Hi.out.val with ⟨h, _⟩ | ⟨_, h⟩
          · cases h
          · rw [h, if_pos rfl]
        have Hdig := Lib.hid hdig
        clear hdig
        go_wp2_with fail
        go_ret
        rw [Hdig.out]
        exact ⟨rfl, Hb.out⟩
end Go.Proofs.YtbgpboiblggmiaaGreatDoor

