/-
  Walks over the program's lexer: classes of bytes, and runs of them.
-/
import Derived.Test.YtpggfkdfchafhaaDoorLxRefg
import Derived.Test.YtpggfkdfchafhaaDoorLxSpecc
namespace Go.Proofs.YtpggfkdfchafhaaDoor
open Go.RowKit

set_option maxHeartbeats 1000000 in
theorem has_any (c : ByteArray) (x : Int) (w : World) (hc : c.size ≤ 8) (h2 : c.size % 2 = 0) :
    Calls Tryd.prog 26 #[.string c, .int .u8 x] w fun e w' => e = .returned (.bool (Lx.inCls c.data.toList x)) ∧ w = w' := by
  obtain ⟨R, hR⟩ : ∃ R, R = Lx.inCls c.data.toList x := ⟨_, rfl⟩
  have HR := Lib.hid hR
  rw [← hR]
  clear hR
  go_enter Tryd.func26, Tryd.ntmps26
  go_wp2
  go_loop [5] (fun t => ∃ m : Nat, m ≤ c.size ∧ m % 2 = 0 ∧ t = .int .i64 m ∧ R = Lx.inCls (c.data.toList.drop m) x) (fun t => c.size - (intOf t).toNat)
  case atStart => exact ⟨0, by omega, rfl, rfl, HR.out⟩
  case round =>
    obtain ⟨m, hm, hm2, rfl, hr⟩ := hrel
    have Hr := Lib.hid hr
    clear hr
    by_cases hlt : m < c.size
    · have hlt1 : m + 1 < c.size := by omega
      have Ha := Lib.hid (Lx.inCls_at c.data.toList m x hlt1)
      by_cases ha : ((c[m].toNat : Int) ≤ x)
      · by_cases hb : (x ≤ (c[m + 1].toNat : Int))
        · have Hv := Lib.hid (show R = true by rw [Hr.out, Ha.out, decide_eq_true (show ((c.data.toList[m].toNat : Nat) : Int) ≤ x from ha), decide_eq_true (show x ≤ ((c.data.toList[m + 1].toNat : Nat) : Int) from hb)]; rfl)
          go_wp2
          go_ret
          exact ⟨ret_bool Hv.out.symm, rfl⟩
        · have Hv := Lib.hid (show R = Lx.inCls (c.data.toList.drop (m + 2)) x by rw [Hr.out, Ha.out, decide_eq_false (show ¬ x ≤ ((c.data.toList[m + 1].toNat : Nat) : Int) from hb)]; simp)
          go_wp2
          go_round
          case rel => exact ⟨m + 2, by omega, by omega, by go_num, Hv.out⟩
          case measure => simp [intOf]; omega
      · have Hv := Lib.hid (show R = Lx.inCls (c.data.toList.drop (m + 2)) x by rw [Hr.out, Ha.out, decide_eq_false (show ¬ ((c.data.toList[m].toNat : Nat) : Int) ≤ x from ha)]; simp)
        go_wp2
        go_round
        case rel => exact ⟨m + 2, by omega, by omega, by go_num, Hv.out⟩
        case measure => simp [intOf]; omega
    · go_wp2
      go_ret
      exact ⟨ret_bool (by rw [Hr.out, Lx.inCls_end _ _ _ (by show c.size ≤ m; omega)]), rfl⟩

theorem hasB (c : ByteArray) (x : Int) (b : Bool) (w : World) (hc : c.size ≤ 8) (h2 : c.size % 2 = 0) (hb : Lx.inCls c.data.toList x = b) :
    Calls Tryd.prog 26 #[.string c, .int .u8 x] w fun e w' => e = .returned (.bool b) ∧ w = w' := by
  subst hb
  exact has_any c x w hc h2

set_option maxHeartbeats 400000 in
theorem lacksB (c : ByteArray) (x : Int) (b : Bool) (w : World) (hc : c.size ≤ 8) (h2 : c.size % 2 = 0) (hb : Lx.inCls c.data.toList x = b) :
    Calls Tryd.prog 28 #[.string c, .int .u8 x] w fun e w' => e = .returned (.bool (!b)) ∧ w = w' := by
  have Hb := Lib.hid hb
  clear hb
  go_enter Tryd.func28, Tryd.ntmps28
  go_wp2_with (go_at_call 26; refine (hasB c x b _ hc h2 Hb.out).mono ?_; rintro e w' ⟨rfl, rfl⟩)
  go_ret
  exact ⟨rfl, rfl⟩

end Go.Proofs.YtpggfkdfchafhaaDoor
