/-
  A walk over the law LexerCoverage.
-/
import Derived.Test.YtpggfkdfchafhaaDoorLawd
import Derived.Test.YtpggfkdfchafhaaDoorLawRow
namespace Go.Proofs.YtpggfkdfchafhaaDoor.LawCoverage
open Go.RowKit

set_option maxRecDepth 100000 in
set_option maxHeartbeats 1000000 in
theorem walk_bad (s : ByteArray) (w : World) (hS : SymsAt w) (hm : s.size ≤ maxLen) (ts : List Lx.Tok) (k p : Nat) (hk : k ≠ 0) (h : Lx.lex s.data.toList = (ts, k, p)) :
    Calls Tryd.prog 4 #[.string s] w fun e w' => e = .returned (.bool true) ∧ Below w.heap.size w w' := by
  have H := Lib.hid h
  have HS := Lib.hid hS
  have HH := Lib.hid (symsAt_pos hS)
  have Hm := Lib.hid hm
  have Hk := Lib.hid hk
  clear h hS hm hk
  go_enter Tryd.func4, Tryd.ntmps4
  go_wp2_with fail
  refine (head_true _ HS.out).mono ?_
  rintro e w1 ⟨rfl, hb1⟩
  have Hb1 := Lib.hid hb1
  clear hb1
  go_wp2_with fail
  refine (good_no s _ Hm.out ts k p Hk.out H.out).mono ?_
  rintro e w2 ⟨rfl, hb2⟩
  have Hb2 := Lib.hid (below_step Hb1.out (Nat.le_refl _) hb2)
  clear hb2
  go_wp2_with fail
  go_ret
  exact ⟨rfl, Hb2.out⟩

set_option maxRecDepth 100000 in
set_option maxHeartbeats 1000000 in
theorem walk_good (s : ByteArray) (w : World) (hS : SymsAt w) (hm : s.size ≤ maxLen) (ts : List Lx.Tok) (p : Nat) (h : Lx.lex s.data.toList = (ts, 0, p)) (hs : s.size ≤ 4000) :
    Calls Tryd.prog 4 #[.string s] w fun e w' => e = .returned (.bool true) ∧ Below w.heap.size w w' := by
  have H := Lib.hid h
  have hlen := Lx.lex_len_of h
  have HC := Lib.hid (Lx.lex_chain h)
  have HS := Lib.hid hS
  have HH := Lib.hid (symsAt_pos hS)
  have Hm := Lib.hid hm
  clear h hS hm
  go_enter Tryd.func4, Tryd.ntmps4
  go_wp2_with fail
  refine (head_true _ HS.out).mono ?_
  rintro e w1 ⟨rfl, hb1⟩
  have Hb1 := Lib.hid hb1
  clear hb1
  go_wp2_with fail
  refine (good_yes s _ Hm.out ts p H.out).mono ?_
  rintro e w2 ⟨rfl, hb2⟩
  have Hb2 := Lib.hid (below_step Hb1.out (Nat.le_refl _) hb2)
  clear hb2
  go_wp2_with fail
  refine (lexP s _ (symsAt_below HS.out Hb2.out HH.out) Hm.out).mono ?_
  intro e w3 hl
  obtain ⟨a, ca, rfl, hb3, ho3⟩ := lexSaid_open H.out hl
  have Hb3 := Lib.hid (below_step Hb2.out (Nat.le_refl _) hb3)
  have Ho3 := Lib.hid ho3
  clear hl hb3 ho3
  go_wp2_with fail
  go_loopw [7, 8] (fun e i wr => ∃ (n k : Nat), n ≤ s.size ∧ k ≤ ts.length ∧ e = .int .i64 n ∧ i = .int .i64 k ∧ Hid (Lx.Chain s.data.toList n (ts.drop k)) ∧ Hid (Below w3.heap.size w3 wr)) (fun _ i _ => ts.length - (intOf i).toNat)
  case atStart => exact ⟨0, 0, by omega, by omega, rfl, rfl, HC, Lib.hid (Below.refl _ _)⟩
  case round =>
    obtain ⟨n, k, hn, hk, rfl, rfl, Hc, Hbr⟩ := hrel
    by_cases hlt : k < ts.length
    · obtain ⟨t, ht⟩ : ∃ t, ts[k]? = some t := ⟨_, List.getElem?_eq_getElem hlt⟩
      obtain ⟨g, hga, hgw, hx0, hx1, hx2⟩ := toks_cells Ho3.out k t ht
      subst hga
      rw [← Hbr.out.cell (p := ⟨g, k * 3 + 1, none⟩) hgw] at hx1
      rw [← Hbr.out.cell (p := ⟨g, k * 3 + 2, none⟩) hgw] at hx2
      obtain ⟨c1, c2, c3, c4, c5⟩ : t.off = n + Lx.skip false (s.data.toList.drop n) ∧ 0 < t.text.length ∧ t.off + t.text.length ≤ s.size ∧ t.text = (s.data.toList.drop t.off).take t.text.length ∧ Lx.Chain s.data.toList (t.off + t.text.length) (ts.drop (k + 1)) := by
        have := Hc.out
        rw [Lx.drop_of ts k t ht] at this
        exact this
      have e1 : n ≤ t.off := by omega
      have Hc1 := Lib.hid c1
      have Hc4 := Lib.hid c4
      have Hc5 := Lib.hid c5
      clear ht hx0 c1 c4 c5
      have g1 : decide (t.off < n) = false := decide_eq_false (by omega)
      have g2 : decide (s.size < t.off) = false := decide_eq_false (by omega)
      have g3 : ((t.text.length : Int) == 0) = false := beq_eq_false_iff_ne.2 (by omega)
      have g4 : decide ((s.size : Int) - (t.off : Int) < (t.text.length : Int)) = false := decide_eq_false (by omega)
      have w1 : IntKind.i64.wrap ((s.size : Int) - (t.off : Int)) = (s.size : Int) - (t.off : Int) := IntWalk.i64_in _ (by omega)
      have w2 : IntKind.i64.wrap ((t.off : Int) + (t.text.length : Int)) = (t.off : Int) + (t.text.length : Int) := IntWalk.i64_in _ (by omega)
      have q1 : s.extract t.off (t.off + t.text.length) = ⟨t.text.toArray⟩ := by rw [extract_text, ← Hc4.out]
      have sl1 : ∀ W, (Instr.slice 9 (.string s) (some (.int .i64 (t.off : Int))) (some (.int .i64 ((t.off : Int) + (t.text.length : Int)))) none).run Tryd.prog W = .ok (.string ⟨t.text.toArray⟩) W := by
        rw [← q1]
        exact slice_str s _ _ t.off (t.off + t.text.length) rfl (by omega) (by omega) c3
      have sl2 : ∀ W, (Instr.slice 9 (.string s) (some (.int .i64 (n : Int))) (some (.int .i64 (t.off : Int))) none).run Tryd.prog W = .ok (.string (s.extract n t.off)) W := slice_str s _ _ n t.off rfl rfl e1 (by omega)
      have hG1 : (s.extract n t.off).size ≤ 4000 := by rw [ByteArray.size_extract]; omega
      have hG2 : Lx.blank false (s.extract n t.off).data.toList = true := by
        rw [Lib.extract_data, show t.off - n = Lx.skip false (s.data.toList.drop n) from by have := Hc1.out; omega]
        exact Lx.blank_take _ _
      have HG := Lib.hid hG2
      have HG1 := Lib.hid hG1
      clear q1 hG2 hG1
      go_wp2
      go_quiet ((go_at_call 15; exact Calls.quiet_of_same (blank_yes (s.extract n t.off) _ HG1.out HG.out)))
      clear sl1 sl2 w1 w2 g1 g2 g3 g4
      go_wp2
      refine ⟨⟨t.off + t.text.length, k + 1, c3, by omega, by go_num, by go_num, Hc5, Lib.hid (by first | exact below_drewN Hbr.out _ | exact Hbr.out)⟩, by simp [intOf]; omega⟩
    · have hdn : ts.drop k = [] := List.drop_eq_nil_of_le (by omega)
      have hG1 : (s.extract n s.size).size ≤ 4000 := by rw [ByteArray.size_extract]; omega
      have hG2 : Lx.blank false (s.extract n s.size).data.toList = true := by
        have hc := Hc.out
        rw [hdn] at hc
        have hc' : n + Lx.skip false (s.data.toList.drop n) = s.size := hc
        rw [Lib.extract_data, show s.size - n = Lx.skip false (s.data.toList.drop n) from by omega]
        exact Lx.blank_take _ _
      have HG := Lib.hid hG2
      have HG1 := Lib.hid hG1
      clear hdn hG1 hG2
      go_wp2_with (go_at_call 15; refine (blank_yes (s.extract n s.size) _ HG1.out HG.out).mono ?_; rintro e w' ⟨rfl, hww⟩; subst hww)
      go_ret
      exact ⟨rfl, Hb3.out.trans (Hbr.out.mono Hb3.out.size)⟩

theorem walk (s : ByteArray) (w : World) (hS : SymsAt w) (hm : s.size ≤ maxLen) :
    Calls Tryd.prog 4 #[.string s] w fun e w' => e = .returned (.bool true) ∧ Below w.heap.size w w' := by
  obtain ⟨ts, k, p, h⟩ : ∃ ts k p, Lx.lex s.data.toList = (ts, k, p) := ⟨_, _, _, rfl⟩
  by_cases hk : k = 0
  · subst hk
    rcases Nat.lt_or_ge 4000 s.size with hs | hs
    · have := Lx.lex_big _ (show 4000 < s.data.toList.length from hs)
      rw [h] at this
      cases this
    · exact walk_good s w hS hm ts p h hs
  · exact walk_bad s w hS hm ts k p hk h

end Go.Proofs.YtpggfkdfchafhaaDoor.LawCoverage
