/-
  Walks over the program's lexer: gaps, names.
-/
import Derived.Test.YtpggfkdfchafhaaDoorLxCodeb
namespace Go.Proofs.YtpggfkdfchafhaaDoor
open Go.RowKit

theorem white_run (s : ByteArray) (a : Nat) (w : World) (h1 : a ≤ s.size) (hs : s.size ≤ 4000) (k : Nat) (hk : k = a + Lx.run Lx.whiteU (s.data.toList.drop a)) :
    Calls Tryd.prog 25 #[.string s, .int .i64 a, .func (Fn.func 26) #[.string { data := #[9, 10, 13, 13, 32, 32] }] #[]] w fun e w' => e = .returned (.int .i64 k) ∧ w = w' := by
  subst hk
  exact runEnd_has s { data := #[9, 10, 13, 13, 32, 32] } a Lx.whiteU w h1 hs (by decide) (by decide) (fun x => Lx.cls_white _)
theorem other_run (s : ByteArray) (a : Nat) (w : World) (h1 : a ≤ s.size) (hs : s.size ≤ 4000) (k : Nat) (hk : k = a + Lx.run Lx.other (s.data.toList.drop a)) :
    Calls Tryd.prog 25 #[.string s, .int .i64 a, .func (Fn.func 28) #[.string { data := #[10, 10] }] #[]] w fun e w' => e = .returned (.int .i64 k) ∧ w = w' := by
  subst hk
  exact runEnd_lacks s { data := #[10, 10] } a Lx.other w h1 hs (by decide) (by decide) (fun x => by rw [show Lx.inCls ({ data := #[10, 10] } : ByteArray).data.toList (x.toNat : Int) = ((x.toNat : Int) == 10) from Lx.cls_feed _]; simp [Lx.other])
theorem word_run (s : ByteArray) (a : Nat) (w : World) (h1 : a ≤ s.size) (hs : s.size ≤ 4000) (k : Nat) (hk : k = a + Lx.run Lx.wordU (s.data.toList.drop a)) :
    Calls Tryd.prog 25 #[.string s, .int .i64 a, .func (Fn.func 26) #[.string { data := #[48, 57, 65, 90, 95, 95, 97, 122] }] #[]] w fun e w' => e = .returned (.int .i64 k) ∧ w = w' := by
  subst hk
  exact runEnd_has s { data := #[48, 57, 65, 90, 95, 95, 97, 122] } a Lx.wordU w h1 hs (by decide) (by decide) (fun x => Lx.cls_word _)
theorem digit_run (s : ByteArray) (a : Nat) (w : World) (h1 : a ≤ s.size) (hs : s.size ≤ 4000) (k : Nat) (hk : k = a + Lx.run Lx.digitU (s.data.toList.drop a)) :
    Calls Tryd.prog 25 #[.string s, .int .i64 a, .func (Fn.func 26) #[.string { data := #[48, 57] }] #[]] w fun e w' => e = .returned (.int .i64 k) ∧ w = w' := by
  subst hk
  exact runEnd_has s { data := #[48, 57] } a Lx.digitU w h1 hs (by decide) (by decide) (fun x => Lx.cls_digit _)

theorem run_at_le (p : UInt8 → Bool) (s : ByteArray) (a : Nat) (h : a ≤ s.size) : a + Lx.run p (s.data.toList.drop a) ≤ s.size := by
  have h1 := Lx.run_le p (s.data.toList.drop a)
  have h2 : s.data.toList.length = s.size := rfl
  rw [List.length_drop] at h1
  omega

theorem hasPrefix_at (s : ByteArray) (k : Nat) (b : Bool) (w : World) (hs : s.size ≤ 4000) (hb : Lx.begins s.data.toList [47, 47] k = b) :
    Calls Tryd.prog 27 #[.string (s.extract k s.size), .string { data := #[47, 47] }] w fun e w' => e = .returned (.bool b) ∧ w = w' := by
  refine hasPrefix_any (s.extract k s.size) w (by rw [ByteArray.size_extract]; omega) b ?_
  rw [Lib.extract_data, ← hb]
  unfold Lx.begins
  rw [List.take_of_length_le (l := List.drop k s.data.toList) (by rw [List.length_drop]; exact Nat.le_refl _)]
  rfl

set_option maxHeartbeats 1000000 in
theorem gapEnd_any (s : ByteArray) (a : Nat) (w : World) (h1 : a ≤ s.size) (hs : s.size ≤ 4000) :
    Calls Tryd.prog 20 #[.string s, .int .i64 a] w fun e w' => e = .returned (.int .i64 ((a + Lx.skip false (s.data.toList.drop a) : Nat) : Int)) ∧ w = w' := by
  obtain ⟨R, hR⟩ : ∃ R, R = a + Lx.skip false (s.data.toList.drop a) := ⟨_, rfl⟩
  obtain ⟨k0, hk0⟩ : ∃ k, k = a + Lx.run Lx.whiteU (s.data.toList.drop a) := ⟨_, rfl⟩
  have hk0s : k0 ≤ s.size := by rw [hk0]; exact run_at_le _ _ _ h1
  have Hg := Lib.hid (Lx.gap_white _ _ _ hk0)
  have Hn0 := Lib.hid (fun h : k0 < s.data.toList.length => Lx.run_stop_at Lx.whiteU s.data.toList a k0 hk0 h)
  have HR := Lib.hid hR
  have Hk0 := Lib.hid hk0
  rw [← hR]
  clear hR hk0
  go_enter Tryd.func20, Tryd.ntmps20
  go_wp2_with (go_at_call 25; refine (white_run s a _ h1 hs k0 Hk0.out).mono ?_; rintro e w' ⟨rfl, rfl⟩)
  go_loop [1] (fun t => ∃ k : Nat, k ≤ s.size ∧ t = .int .i64 k ∧ R = k + Lx.skip false (s.data.toList.drop k) ∧ ∀ h : k < s.data.toList.length, Lx.whiteU s.data.toList[k] = false) (fun t => s.size - (intOf t).toNat)
  case atStart => exact ⟨k0, hk0s, rfl, by rw [HR.out, Hg.out], Hn0.out⟩
  case round =>
    obtain ⟨k, hk, rfl, hr, hn⟩ := hrel
    have Hr := Lib.hid hr
    have Hn := Lib.hid hn
    clear hr hn
    cases hb : Lx.begins s.data.toList [47, 47] k
    · have Hs : Hid (Lx.skip false (s.data.toList.drop k) = 0) := Lib.hid (by
        by_cases hlt : k < s.size
        · exact Lx.skip_none _ _ hlt hb (Hn.out hlt)
        · exact Lx.skip_end _ _ _ (by show s.size ≤ k; omega))
      go_wp2_with (go_at_call 27; refine (hasPrefix_at s k false _ hs hb).mono ?_; rintro e w' ⟨rfl, rfl⟩)
      go_ret
      exact ⟨by rw [Hr.out, Hs.out]; rfl, rfl⟩
    · have hlt : k < s.size := by
        rcases Nat.lt_or_ge k s.size with h | h
        · exact h
        · exfalso
          unfold Lx.begins at hb
          rw [List.drop_eq_nil_of_le (by show s.size ≤ k; exact h)] at hb
          exact absurd hb (by decide)
      have Hs := Lib.hid (Lx.skip_note _ _ hlt hb)
      obtain ⟨j, hj⟩ : ∃ j, j = k + Lx.run Lx.other (s.data.toList.drop k) := ⟨_, rfl⟩
      have hjs : j ≤ s.size := by rw [hj]; exact run_at_le _ _ _ hk
      have hkj : k < j := by
        have h47 := ((Lx.begins2_iff _ _ hlt).1 hb).1
        have := Lx.run_yes Lx.other s.data.toList k hlt (by rw [h47]; decide)
        omega
      have Ho := Lib.hid (Lx.gap_other _ _ _ hj)
      have Hj := Lib.hid hj
      obtain ⟨m, hm⟩ : ∃ m, m = j + Lx.run Lx.whiteU (s.data.toList.drop j) := ⟨_, rfl⟩
      have hms : m ≤ s.size := by rw [hm]; exact run_at_le _ _ _ hjs
      have hjm : j ≤ m := by omega
      have Hw := Lib.hid (Lx.gap_white _ _ _ hm)
      have Hnm := Lib.hid (fun h : m < s.data.toList.length => Lx.run_stop_at Lx.whiteU s.data.toList j m hm h)
      have Hm := Lib.hid hm
      clear hj hm
      go_wp2_with (first | (go_at_call 27; refine (hasPrefix_at s k true _ hs hb).mono ?_; rintro e w' ⟨rfl, rfl⟩) | (go_at_call 25; ((with_reducible refine (other_run s k _ hk hs j Hj.out).mono ?_); rintro e w' ⟨rfl, rfl⟩)) | (go_at_call 25; ((with_reducible refine (white_run s j _ hjs hs m Hm.out).mono ?_); rintro e w' ⟨rfl, rfl⟩)))
      go_round
      case rel => exact ⟨m, hms, rfl, by rw [Hr.out, Hs.out, Ho.out, Hw.out], Hnm.out⟩
      case measure => simp [intOf]; omega

set_option maxHeartbeats 400000 in
theorem nameAt_ok (s : ByteArray) (a : Nat) (w : World) (h1 : a ≤ s.size) (hs : s.size ≤ 4000) (n : Nat) (hn : n = Lx.run Lx.wordU (s.data.toList.drop a)) (h16 : n ≤ 16) :
    Calls Tryd.prog 29 #[.string s, .int .i64 a] w fun e w' => e = .returned (.string (s.extract a (a + n))) ∧ w = w' := by
  have hk : a + n ≤ s.size := by rw [hn]; exact run_at_le _ _ _ h1
  obtain ⟨k, hkn⟩ : ∃ k, k = a + n := ⟨_, rfl⟩
  have Hk : Hid (k = a + Lx.run Lx.wordU (s.data.toList.drop a)) := Lib.hid (by rw [hkn, hn])
  have hk1 : a ≤ k := by omega
  have hk2 : k ≤ s.size := by omega
  have hk3 : k - a ≤ 16 := by omega
  rw [← hkn]
  clear hn hkn hk h16
  go_enter Tryd.func29, Tryd.ntmps29
  go_wp2_with (go_at_call 25; refine (word_run s a _ h1 hs k Hk.out).mono ?_; rintro e w' ⟨rfl, rfl⟩)
  go_ret
  exact ⟨rfl, rfl⟩

set_option maxHeartbeats 400000 in
theorem nameAt_long (s : ByteArray) (a : Nat) (w : World) (h1 : a ≤ s.size) (hs : s.size ≤ 4000) (n : Nat) (hn : n = Lx.run Lx.wordU (s.data.toList.drop a)) (h16 : 16 < n) :
    Calls Tryd.prog 29 #[.string s, .int .i64 a] w fun e w' => e = .returned (.string ⟨#[]⟩) ∧ w = w' := by
  have hk : a + n ≤ s.size := by rw [hn]; exact run_at_le _ _ _ h1
  obtain ⟨k, hkn⟩ : ∃ k, k = a + n := ⟨_, rfl⟩
  have Hk : Hid (k = a + Lx.run Lx.wordU (s.data.toList.drop a)) := Lib.hid (by rw [hkn, hn])
  have hk1 : a ≤ k := by omega
  have hk2 : k ≤ s.size := by omega
  have hk3 : 16 < k - a := by omega
  clear hn hkn hk h16
  go_enter Tryd.func29, Tryd.ntmps29
  go_wp2_with (go_at_call 25; refine (word_run s a _ h1 hs k Hk.out).mono ?_; rintro e w' ⟨rfl, rfl⟩)
  go_ret
  exact ⟨rfl, rfl⟩

theorem numB_no {nb lu : Bool} {k a c : Nat} (hb : nb = (decide ((k : Int) - a ≤ 9) && (!((c : Int) == 48) || ((k : Int) == a + 1)) && !lu)) (h : 9 < k - a ∨ (1 < k - a ∧ c = 48) ∨ lu = true) : nb = false := by
  rw [hb]
  rcases h with h | ⟨h, h'⟩ | h
  · rw [decide_eq_false (by omega)]; rfl
  · rw [h', show ((k : Int) == a + 1) = false from beq_eq_false_iff_ne.2 (by omega)]; simp
  · rw [h]; simp
theorem numB_yes {nb lu : Bool} {k a c : Nat} (hb : nb = (decide ((k : Int) - a ≤ 9) && (!((c : Int) == 48) || ((k : Int) == a + 1)) && !lu)) (h1 : k - a ≤ 9) (h2 : c ≠ 48 ∨ k - a ≤ 1) (hk : a < k) (h3 : lu = false) : nb = true := by
  rw [hb, decide_eq_true (by omega), h3]
  rcases h2 with h2 | h2
  · rw [show ((c : Int) == 48) = false from beq_eq_false_iff_ne.2 (by omega)]; rfl
  · rw [show ((k : Int) == a + 1) = true from beq_iff_eq.2 (by omega)]; simp
theorem ret_str {a b : ByteArray} (h : a = b) : Ending.returned (.string a) = .returned (.string b) := by rw [h]
theorem ext_first (s : ByteArray) (a k : Nat) (h : a < s.size) (h0 : 0 < (s.extract a k).size) : (s.extract a k)[0] = s[a] := by
  rw [ByteArray.getElem_extract]; simp

set_option maxHeartbeats 1000000 in
theorem numberAt_any (s : ByteArray) (a : Nat) (w : World) (h1 : a < s.size) (hs : s.size ≤ 4000) (hd : Lx.digitU s.data.toList[a] = true) (n : Nat) (hn : n = Lx.run Lx.digitU (s.data.toList.drop a)) :
    Calls Tryd.prog 30 #[.string s, .int .i64 a] w fun e w' => e = .returned (.string (if Lx.numOk (s.data.toList.drop a) n then s.extract a (a + n) else ⟨#[]⟩)) ∧ w = w' := by
  have hk : a + n ≤ s.size := by rw [hn]; exact run_at_le _ _ _ (by omega)
  have hn0 : 0 < n := by
    rw [hn, Lx.run_yes _ _ _ h1 hd]
    omega
  obtain ⟨k, hkn⟩ : ∃ k, k = a + n := ⟨_, rfl⟩
  have hkr : k = a + Lx.run Lx.digitU (s.data.toList.drop a) := by rw [hkn, hn]
  have hk1 : a < k := by omega
  have hk2 : k ≤ s.size := by omega
  have Hb := Lib.hid (Lx.numOk_eq s a k n h1 hkn.symm)
  obtain ⟨m, hm⟩ : ∃ m, m = k + Lx.run Lx.wordU (s.data.toList.drop k) := ⟨_, rfl⟩
  have hms : m ≤ s.size := by rw [hm]; exact run_at_le _ _ _ hk2
  have Hlu := Lib.hid (Lx.lu_run s.data.toList k m hm (fun h => Lx.run_stop_at Lx.digitU s.data.toList a k hkr h))
  have Hk := Lib.hid hkr
  have Hm := Lib.hid hm
  rw [← hkn]
  obtain ⟨T, hT⟩ : ∃ T, T = (if Lx.numOk (s.data.toList.drop a) n then s.extract a k else ⟨#[]⟩) := ⟨_, rfl⟩
  rw [← hT]
  have HT := Lib.hid hT
  clear hn hkn hk hkr hm hn0 hT
  have h1' : a ≤ s.size := by omega
  go_enter Tryd.func30, Tryd.ntmps30
  go_wp2_with (first | (go_at_call 25; ((with_reducible refine (digit_run s a _ h1' hs k Hk.out).mono ?_); rintro e w' ⟨rfl, rfl⟩)) | (go_at_call 25; ((with_reducible refine (word_run s k _ hk2 hs m Hm.out).mono ?_); rintro e w' ⟨rfl, rfl⟩)))
  all_goals go_ret
  · have h : 9 < ((k - a : Nat) : Int) ∨ ((((s.extract a k)[0]'(by rw [ByteArray.size_extract]; omega)).toNat : Int) == 48) = true := by assumption
    have h2 : 1 < ((k - a : Nat) : Int) := by assumption
    refine ⟨ret_str ?_, rfl⟩
    rw [HT.out, if_neg (by rw [numB_no Hb.out (by
      rcases h with h | h
      · exact .inl (by omega)
      · rw [ext_first s a k h1] at h
        exact .inr (.inl ⟨by omega, by have := beq_iff_eq.1 h; omega⟩))]; exact Bool.false_ne_true)]
  · have h : k < m := by assumption
    refine ⟨ret_str ?_, rfl⟩
    rw [HT.out, if_neg (by rw [numB_no Hb.out (.inr (.inr (by rw [Hlu.out, decide_eq_true h])))]; exact Bool.false_ne_true)]
  · have h : ((k - a : Nat) : Int) ≤ 9 ∧ ((((s.extract a k)[0]'(by rw [ByteArray.size_extract]; omega)).toNat : Int) == 48) = false := by assumption
    have hm : ¬ k < m := by assumption
    obtain ⟨h9, h⟩ := h
    rw [ext_first s a k h1] at h
    refine ⟨ret_str ?_, rfl⟩
    rw [HT.out, if_pos (numB_yes Hb.out (by omega) (.inl (by have := beq_eq_false_iff_ne.1 h; omega)) hk1 (by rw [Hlu.out, decide_eq_false hm]))]
  · have h : k < m := by assumption
    refine ⟨ret_str ?_, rfl⟩
    rw [HT.out, if_neg (by rw [numB_no Hb.out (.inr (.inr (by rw [Hlu.out, decide_eq_true h])))]; exact Bool.false_ne_true)]
  · have h9 : ((k - a : Nat) : Int) ≤ 9 := by assumption
    have hg : ((k - a : Nat) : Int) ≤ 1 := by assumption
    have hm : ¬ k < m := by assumption
    refine ⟨ret_str ?_, rfl⟩
    rw [HT.out, if_pos (numB_yes Hb.out (by omega) (.inr (by omega)) hk1 (by rw [Hlu.out, decide_eq_false hm]))]
  · have h : 9 < ((k - a : Nat) : Int) := by assumption
    refine ⟨ret_str ?_, rfl⟩
    rw [HT.out, if_neg (by rw [numB_no Hb.out (.inl (by omega))]; exact Bool.false_ne_true)]

end Go.Proofs.YtpggfkdfchafhaaDoor
