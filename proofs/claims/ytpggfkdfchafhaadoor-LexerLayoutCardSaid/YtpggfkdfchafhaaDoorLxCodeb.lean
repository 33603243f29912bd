/-
  Walks over the program's lexer: runs of bytes, and gaps.
-/
import Derived.Test.YtpggfkdfchafhaaDoorLxCodea
namespace Go.Proofs.YtpggfkdfchafhaaDoor
open Go.RowKit

set_option maxHeartbeats 1000000 in
theorem runEnd_has (s c : ByteArray) (a : Nat) (p : UInt8 → Bool) (w : World) (h1 : a ≤ s.size) (hs : s.size ≤ 4000) (hc : c.size ≤ 8) (h2 : c.size % 2 = 0) (hp : ∀ x : UInt8, Lx.inCls c.data.toList (x.toNat : Int) = p x) :
    Calls Tryd.prog 25 #[.string s, .int .i64 a, .func (Fn.func 26) #[.string c] #[]] w fun e w' => e = .returned (.int .i64 ((a + Lx.run p (s.data.toList.drop a) : Nat) : Int)) ∧ w = w' := by
  obtain ⟨R, hR⟩ : ∃ R, R = a + Lx.run p (s.data.toList.drop a) := ⟨_, rfl⟩
  have HR := Lib.hid hR
  have Hp := Lib.hid hp
  rw [← hR]
  clear hR hp
  go_enter Tryd.func25, Tryd.ntmps25
  go_wp2
  go_loop [1] (fun t => ∃ k : Nat, k ≤ s.size ∧ t = .int .i64 k ∧ R = k + Lx.run p (s.data.toList.drop k)) (fun t => s.size - (intOf t).toNat)
  case atStart => exact ⟨a, h1, rfl, HR.out⟩
  case round =>
    obtain ⟨k, hk, rfl, hr⟩ := hrel
    have Hr := Lib.hid hr
    clear hr
    by_cases hlt : k < s.size
    · cases hb : p s.data.toList[k]
      · have Hs := Lib.hid (Lx.run_no p _ _ hlt hb)
        have Hb := Lib.hid hb
        clear hb
        go_wp2_with (go_at_call 26; refine (hasB c _ false _ hc h2 ((Hp.out _).trans Hb.out)).mono ?_; rintro e w' ⟨rfl, rfl⟩)
        go_ret
        exact ⟨by rw [Hr.out, Hs.out]; rfl, rfl⟩
      · have Hs := Lib.hid (Lx.run_yes p _ _ hlt hb)
        have Hb := Lib.hid hb
        clear hb
        go_wp2_with (go_at_call 26; refine (hasB c _ true _ hc h2 ((Hp.out _).trans Hb.out)).mono ?_; rintro e w' ⟨rfl, rfl⟩)
        go_round
        case rel => exact ⟨k + 1, by omega, by go_num, by rw [Hr.out, Hs.out]; omega⟩
        case measure => simp [intOf]; omega
    · go_wp2
      go_ret
      exact ⟨by rw [Hr.out, Lx.run_end _ _ _ (by show s.size ≤ k; omega)]; rfl, rfl⟩

set_option maxHeartbeats 1000000 in
theorem runEnd_lacks (s c : ByteArray) (a : Nat) (p : UInt8 → Bool) (w : World) (h1 : a ≤ s.size) (hs : s.size ≤ 4000) (hc : c.size ≤ 8) (h2 : c.size % 2 = 0) (hp : ∀ x : UInt8, Lx.inCls c.data.toList (x.toNat : Int) = !p x) :
    Calls Tryd.prog 25 #[.string s, .int .i64 a, .func (Fn.func 28) #[.string c] #[]] w fun e w' => e = .returned (.int .i64 ((a + Lx.run p (s.data.toList.drop a) : Nat) : Int)) ∧ w = w' := by
  obtain ⟨R, hR⟩ : ∃ R, R = a + Lx.run p (s.data.toList.drop a) := ⟨_, rfl⟩
  have HR := Lib.hid hR
  have Hp := Lib.hid hp
  rw [← hR]
  clear hR hp
  go_enter Tryd.func25, Tryd.ntmps25
  go_wp2
  go_loop [1] (fun t => ∃ k : Nat, k ≤ s.size ∧ t = .int .i64 k ∧ R = k + Lx.run p (s.data.toList.drop k)) (fun t => s.size - (intOf t).toNat)
  case atStart => exact ⟨a, h1, rfl, HR.out⟩
  case round =>
    obtain ⟨k, hk, rfl, hr⟩ := hrel
    have Hr := Lib.hid hr
    clear hr
    by_cases hlt : k < s.size
    · cases hb : p s.data.toList[k]
      · have Hs := Lib.hid (Lx.run_no p _ _ hlt hb)
        have Hb := Lib.hid hb
        clear hb
        go_wp2_with (go_at_call 28; refine (lacksB c _ true _ hc h2 ((Hp.out _).trans (congrArg not Hb.out))).mono ?_; rintro e w' ⟨rfl, rfl⟩)
        go_ret
        exact ⟨by rw [Hr.out, Hs.out]; rfl, rfl⟩
      · have Hs := Lib.hid (Lx.run_yes p _ _ hlt hb)
        have Hb := Lib.hid hb
        clear hb
        go_wp2_with (go_at_call 28; refine (lacksB c _ false _ hc h2 ((Hp.out _).trans (congrArg not Hb.out))).mono ?_; rintro e w' ⟨rfl, rfl⟩)
        go_round
        case rel => exact ⟨k + 1, by omega, by go_num, by rw [Hr.out, Hs.out]; omega⟩
        case measure => simp [intOf]; omega
    · go_wp2
      go_ret
      exact ⟨by rw [Hr.out, Lx.run_end _ _ _ (by show s.size ≤ k; omega)]; rfl, rfl⟩

set_option maxHeartbeats 400000 in
theorem hasPrefix_any (x : ByteArray) (w : World) (hs : x.size ≤ 4000) (b : Bool) (hb : (x.data.toList.take 2 == [47, 47]) = b) :
    Calls Tryd.prog 27 #[.string x, .string { data := #[47, 47] }] w fun e w' => e = .returned (.bool b) ∧ w = w' := by
  subst hb
  go_enter Tryd.func27, Tryd.ntmps27
  go_wp2
  · go_ret
    exact ⟨ret_bool (by rw [ByteArray.toList_eq, Lib.extract_data]; rfl), rfl⟩
  · go_ret
    refine ⟨ret_bool ?_, rfl⟩
    symm
    apply beq_eq_false_iff_ne.2
    intro h
    have hl := congrArg List.length h
    rw [List.length_take, show x.data.toList.length = x.size from rfl] at hl
    simp only [List.length_cons, List.length_nil] at hl
    omega

end Go.Proofs.YtpggfkdfchafhaaDoor
