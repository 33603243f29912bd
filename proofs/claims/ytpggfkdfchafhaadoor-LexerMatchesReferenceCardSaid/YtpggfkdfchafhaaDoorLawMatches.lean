/-
  For every source the program's lexer and the reference's answer the same: the law LexerMatchesReference returns true. No condition but the row's own.
-/
import Derived.Test.YtpggfkdfchafhaaDoorLawc
import Derived.Test.YtpggfkdfchafhaaDoorLxLen
import Derived.Test.YtpggfkdfchafhaaDoorLawRow
namespace Go.Proofs.YtpggfkdfchafhaaDoor.LawMatches
open Go.RowKit Go.ChangeShapes Go.WideShapes Go.ChangeAt

set_option maxRecDepth 100000 in
set_option maxHeartbeats 1000000 in
theorem walk (s : ByteArray) (w : World) (hS : SymsAt w) (hm : s.size ≤ maxLen) :
    Calls Tryd.prog 3 #[.string s] w fun e w' => e = .returned (.bool true) ∧ Below w.heap.size w w' := by
  obtain ⟨ts, k, p, h⟩ : ∃ ts k p, Lx.lex s.data.toList = (ts, k, p) := ⟨_, _, _, rfl⟩
  have H := Lib.hid h
  have hlen := Lx.lex_len_of h
  have HS := Lib.hid hS
  have HH := Lib.hid (symsAt_pos hS)
  have Hm := Lib.hid hm
  clear h hS hm
  go_enter Tryd.func3, Tryd.ntmps3
  go_wp2_with fail
  refine (head_true _ HS.out).mono ?_
  rintro e w1 ⟨rfl, hb1⟩
  have Hb1 := Lib.hid hb1
  clear hb1
  go_wp2_with fail
  refine (lexP s _ (symsAt_below HS.out Hb1.out HH.out) Hm.out).mono ?_
  intro e w2 hl
  obtain ⟨a, ca, rfl, hb2, ho2⟩ := lexSaid_open H.out hl
  have Hb2 := Lib.hid (below_step Hb1.out (Nat.le_refl _) hb2)
  have Ho2 := Lib.hid ho2
  clear hl hb2 ho2
  go_wp2_with fail
  refine (lexR s _ Hm.out).mono ?_
  intro e w3 hl
  obtain ⟨b, cb, rfl, hb3, ho3⟩ := lexSaid_open H.out hl
  have Ho2' := Lib.hid (ownsRow_below Ho2.out hb3)
  have Hb3 := Lib.hid (below_step Hb2.out (Nat.le_refl _) hb3)
  have Ho3 := Lib.hid ho3
  clear hl hb3 ho3
  go_wp2_with fail
  refine (same_yes a b ca cb _ _ ts _ (by omega) Ho2'.out Ho3.out).mono ?_
  rintro e w4 ⟨rfl, hb4⟩
  have Hb4 := Lib.hid (below_step Hb3.out (Nat.le_refl _) hb4)
  clear hb4
  go_wp2_with fail
  go_ret
  exact ⟨rfl, Hb4.out⟩

end Go.Proofs.YtpggfkdfchafhaaDoor.LawMatches
