/-
  A walk over Blank: does a text consist of gaps?
-/
import Derived.Test.YtpggfkdfchafhaaDoorLawc
import Derived.Test.YtpggfkdfchafhaaDoorLxGaps
namespace Go.Proofs.YtpggfkdfchafhaaDoor
open Go.RowKit

/-- a piece of a string, cut at two indexes that may be sums -/
theorem slice_str (s : ByteArray) (x y : Int) (i j : Nat) (hx : x = i) (hy : y = j) (h : i ≤ j) (h2 : j ≤ s.size) (W : World) : (Instr.slice 9 (.string s) (some (.int .i64 x)) (some (.int .i64 y)) none).run Tryd.prog W = .ok (.string (s.extract i j)) W := by
  subst hx
  subst hy
  rw [run_slice_string W _ s _ _ _ _ Tryd.underlying9 (by omega) (by omega) (by omega)]
  simp

theorem byte47 (s : ByteArray) (k : Nat) (h : k < s.size) : ((s[k].toNat : Int) == 47) = decide (s.data.toList[k] = 47) := by
  rw [Bool.eq_iff_iff]
  simp only [beq_iff_eq, decide_eq_true_eq]
  constructor
  · intro h'
    apply UInt8.toNat_inj.1
    show s[k].toNat = 47
    omega
  · intro h'
    show ((s.data.toList[k].toNat : Nat) : Int) = 47
    rw [h']; rfl
theorem begins_bytes2 (s : ByteArray) (k : Nat) (h : k < s.size) (hb : Lx.begins s.data.toList [47, 47] k = true) : ∃ h1 : k + 1 < s.size, ((s[k].toNat : Int) == 47) = true ∧ ((s[k + 1].toNat : Int) == 47) = true := by
  obtain ⟨h2, h3⟩ := (Lx.begins2_iff s.data.toList k h).1 hb
  have h1 : k + 1 < s.size := by
    rcases Nat.lt_or_ge (k + 1) s.size with h' | h'
    · exact h'
    · rw [List.drop_eq_nil_of_le (show s.data.toList.length ≤ k + 1 from h')] at h3
      cases h3
  refine ⟨h1, ?_, ?_⟩
  · rw [byte47]; exact decide_eq_true h2
  · rw [byte47]
    rw [Lx.drop_at s.data.toList (k + 1) h1] at h3
    exact decide_eq_true (Option.some.inj h3)

set_option maxHeartbeats 1000000 in
theorem blank_yes (s : ByteArray) (w : World) (hs : s.size ≤ 4000) (h : Lx.blank false s.data.toList = true) :
    Calls Tryd.prog 15 #[.string s] w fun e w' => e = .returned (.bool true) ∧ w' = w := by
  have H := Lib.hid h
  clear h
  go_enter Tryd.func15, Tryd.ntmps15
  go_wp2
  go_loop [3, 4] (fun n i => ∃ (b : Bool) (k : Nat), k ≤ s.size ∧ n = .bool b ∧ i = .int .i64 k ∧ Hid (Lx.blank b (s.data.toList.drop k) = true)) (fun _ i => s.size - (intOf i).toNat)
  case atStart => exact ⟨false, 0, by omega, rfl, rfl, H⟩
  case round =>
    obtain ⟨b, k, hk, rfl, rfl, Hk⟩ := hrel
    by_cases hlt : k < s.size
    · have hd := Lib.hid (Lx.drop_at s.data.toList k hlt)
      cases b
      · cases hb : Lx.begins s.data.toList [47, 47] k
        · obtain ⟨hw, hn⟩ := Lx.blank_white _ k hlt hb Hk.out
          have Hn := Lib.hid hn
          have h47 : ((s[k].toNat : Int) == 47) = false := by
            rw [byte47]
            apply decide_eq_false
            intro h47
            rw [h47] at hw
            exact absurd hw (by decide)
          clear hn hb
          by_cases h1 : k + 1 < s.size
          all_goals
            go_wp2_with (go_at_call 24; refine (whiteB _ true _ hw).mono ?_; rintro e w' ⟨rfl, rfl⟩)
            go_round
            case rel => exact ⟨false, k + 1, by omega, rfl, by go_num, Hn⟩
            case measure => simp [intOf]; omega
        · have Hn := Lib.hid (Lx.blank_note _ k hlt hb Hk.out)
          obtain ⟨h1, ha, hc⟩ := begins_bytes2 s k hlt hb
          clear hb
          go_wp2
          go_round
          case rel => exact ⟨true, k + 1, by omega, rfl, by go_num, Hn⟩
          case measure => simp [intOf]; omega
      · have Hn : Hid (Lx.blank (Lx.other s.data.toList[k]) (s.data.toList.drop (k + 1)) = true) := by
          have := Hk.out
          rw [hd.out] at this
          exact this
        go_wp2
        go_round
        case rel => exact ⟨Lx.other s.data.toList[k], k + 1, by omega, rfl, by go_num, Hn⟩
        case measure => simp [intOf]; omega
    · go_wp2
      go_ret
      exact ⟨rfl, rfl⟩

end Go.Proofs.YtpggfkdfchafhaaDoor
