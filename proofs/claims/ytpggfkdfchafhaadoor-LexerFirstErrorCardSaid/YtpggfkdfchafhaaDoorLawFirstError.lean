/-
  A walk over the law LexerFirstError.
-/
import Derived.Test.YtpggfkdfchafhaaDoorLawd
import Derived.Test.YtpggfkdfchafhaaDoorLxMore
import Derived.Test.YtpggfkdfchafhaaDoorLawRow
namespace Go.Proofs.YtpggfkdfchafhaaDoor.LawFirstError
open Go.RowKit

set_option maxRecDepth 100000 in
set_option maxHeartbeats 1000000 in
theorem walk_other (s : ByteArray) (w : World) (hS : SymsAt w) (hm : s.size ≤ maxLen) (ts : List Lx.Tok) (k p : Nat) (hk : k ≠ 10) (h : Lx.lex s.data.toList = (ts, k, p)) :
    Calls Tryd.prog 7 #[.string s] w fun e w' => e = .returned (.bool true) ∧ Below w.heap.size w w' := by
  have H := Lib.hid h
  have HS := Lib.hid hS
  have HH := Lib.hid (symsAt_pos hS)
  have Hm := Lib.hid hm
  have hk' : ((k : Int) != 10) = true := by rw [bne_iff_ne]; omega
  clear h hS hm hk
  go_enter Tryd.func7, Tryd.ntmps7
  go_wp2_with fail
  refine (head_true _ HS.out).mono ?_
  rintro e w1 ⟨rfl, hb1⟩
  have Hb1 := Lib.hid hb1
  clear hb1
  go_wp2_with fail
  refine (lexR s _ Hm.out).mono ?_
  intro e w2 hl
  obtain ⟨a, ca, rfl, hb2, ho2⟩ := lexSaid_open H.out hl
  have Hb2 := Lib.hid (below_step Hb1.out (Nat.le_refl _) hb2)
  have Ho2 := Lib.hid ho2
  clear hl hb2 ho2
  go_wp2_with fail
  go_ret
  exact ⟨rfl, Hb2.out⟩

set_option maxRecDepth 100000 in
set_option maxHeartbeats 1000000 in
theorem walk_err (s : ByteArray) (w : World) (hS : SymsAt w) (hm : s.size ≤ maxLen) (ts : List Lx.Tok) (p : Nat) (h : Lx.lex s.data.toList = (ts, 10, p)) :
    Calls Tryd.prog 7 #[.string s] w fun e w' => e = .returned (.bool true) ∧ Below w.heap.size w w' := by
  obtain ⟨h1, h2, h3⟩ := Lx.lex_err h
  have hp : p < s.size := h1
  have hm' := hm
  unfold maxLen at hm'
  obtain ⟨ts', p', h2'⟩ : ∃ ts' p', Lx.lex (s.extract 0 p).data.toList = (ts', 0, p') := by
    refine ⟨(Lx.lex (s.extract 0 p).data.toList).1, (Lx.lex (s.extract 0 p).data.toList).2.2, Prod.ext rfl (Prod.ext ?_ rfl)⟩
    rw [Lib.extract_data, List.drop_zero, Nat.sub_zero]
    exact h2
  have h3' : Lx.lex (s.extract p s.size).data.toList = ([], 10, 0) := by
    rw [Lib.extract_data, List.take_of_length_le (by rw [List.length_drop]; exact Nat.le_refl _)]
    exact h3
  have hz1 : (s.extract 0 p).size ≤ maxLen := by rw [ByteArray.size_extract]; unfold maxLen; omega
  have hz2 : (s.extract p s.size).size ≤ maxLen := by rw [ByteArray.size_extract]; unfold maxLen; omega
  have H := Lib.hid h
  have HS := Lib.hid hS
  have HH := Lib.hid (symsAt_pos hS)
  have Hm := Lib.hid hm
  have H2 := Lib.hid h2'
  have H3 := Lib.hid h3'
  have Hz1 := Lib.hid hz1
  have Hz2 := Lib.hid hz2
  clear h hS hm h1 h2 h3 h2' h3' hz1 hz2
  go_enter Tryd.func7, Tryd.ntmps7
  go_wp2_with fail
  refine (head_true _ HS.out).mono ?_
  rintro e w1 ⟨rfl, hb1⟩
  have Hb1 := Lib.hid hb1
  clear hb1
  go_wp2_with fail
  refine (lexR s _ Hm.out).mono ?_
  intro e w2 hl
  obtain ⟨a, ca, rfl, hb2, ho2⟩ := lexSaid_open H.out hl
  have Hb2 := Lib.hid (below_step Hb1.out (Nat.le_refl _) hb2)
  have Ho2 := Lib.hid ho2
  clear hl hb2 ho2
  go_wp2_with fail
  refine (lexP s _ (symsAt_below HS.out Hb2.out HH.out) Hm.out).mono ?_
  intro e w3 hl
  obtain ⟨b, cb, rfl, hb3, ho3⟩ := lexSaid_open H.out hl
  have Hb3 := Lib.hid (below_step Hb2.out (Nat.le_refl _) hb3)
  clear hl hb3 ho3
  go_wp2_with fail
  refine (lexP (s.extract 0 p) _ (symsAt_below HS.out Hb3.out HH.out) Hz1.out).mono ?_
  intro e w4 hl
  obtain ⟨c, cc, rfl, hb4, ho4⟩ := lexSaid_open H2.out hl
  have Hb4 := Lib.hid (below_step Hb3.out (Nat.le_refl _) hb4)
  clear hl hb4 ho4
  go_wp2_with fail
  refine (fails_yes (s.extract p s.size) 0 _ (symsAt_below HS.out Hb4.out HH.out) Hz2.out H3.out).mono ?_
  rintro e w5 ⟨rfl, hb5⟩
  have Hb5 := Lib.hid (below_step Hb4.out (Nat.le_refl _) hb5)
  clear hb5
  go_wp2_with fail
  go_ret
  exact ⟨rfl, Hb5.out⟩

theorem walk (s : ByteArray) (w : World) (hS : SymsAt w) (hm : s.size ≤ maxLen) :
    Calls Tryd.prog 7 #[.string s] w fun e w' => e = .returned (.bool true) ∧ Below w.heap.size w w' := by
  obtain ⟨ts, k, p, h⟩ : ∃ ts k p, Lx.lex s.data.toList = (ts, k, p) := ⟨_, _, _, rfl⟩
  by_cases hk : k = 10
  · subst hk; exact walk_err s w hS hm ts p h
  · exact walk_other s w hS hm ts k p hk h

end Go.Proofs.YtpggfkdfchafhaaDoor.LawFirstError
