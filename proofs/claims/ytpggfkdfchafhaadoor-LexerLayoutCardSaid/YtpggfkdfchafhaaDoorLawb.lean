/-
  The fixed examples of the laws hold: a walk over head.
-/
import Derived.Test.YtpggfkdfchafhaaDoorLawa
namespace Go.Proofs.YtpggfkdfchafhaaDoor
open Go.RowKit

def exOne : List Lx.Tok := [⟨1, [97], 0⟩, ⟨3, [46], 1⟩, ⟨1, [98], 2⟩, ⟨3, [58, 61], 4⟩, ⟨1, [111, 108, 100], 7⟩, ⟨3, [40], 10⟩, ⟨1, [99], 11⟩, ⟨3, [41], 12⟩, ⟨3, [43], 14⟩, ⟨2, [49], 16⟩, ⟨3, [59], 17⟩]
def exTwo : List Lx.Tok := [⟨1, [112], 0⟩, ⟨3, [61, 61, 62], 2⟩, ⟨1, [113], 6⟩, ⟨3, [61, 61], 7⟩, ⟨1, [114], 9⟩, ⟨3, [60, 61], 10⟩, ⟨1, [115], 12⟩]
theorem ex_one : Lx.lex [97, 46, 98, 32, 58, 61, 32, 111, 108, 100, 40, 99, 41, 32, 43, 32, 49, 59, 32, 47, 47, 32, 120] = (exOne, 0, 0) := by decide +kernel
theorem ex_two : Lx.lex [112, 32, 61, 61, 62, 32, 113, 61, 61, 114, 60, 61, 115] = (exTwo, 0, 0) := by decide +kernel
theorem ex_three : Lx.lex [120, 32, 58, 61, 32, 48, 55] = ([], 10, 5) := by decide +kernel
theorem ex_four : Lx.lex [97, 32, 62, 32, 98] = ([], 10, 2) := by decide +kernel

theorem textsAt_toks (w : World) (ts : List Lx.Tok) (ty : TypeId) : TextsAt (w.alloc (.cells (ts.map fun t => Value.string ⟨t.text.toArray⟩).toArray ty)) w.heap.size (ts.map (·.text)) := by
  have h := textsAt_alloc w (ts.map (·.text)) ty
  rw [List.map_map] at h
  exact h

theorem below_step {B : Nat} {w w1 w2 : World} (h : Below B w w1) (hB : B ≤ w.heap.size) (h2 : Below w1.heap.size w1 w2) : Below B w w2 := h.trans (h2.mono (Nat.le_trans hB h.size))

set_option maxRecDepth 100000 in
set_option maxHeartbeats 1000000 in
theorem head_true (w : World) (hS : SymsAt w) : Calls Tryd.prog 10 #[] w fun e w' => e = .returned (.bool true) ∧ Below w.heap.size w w' := by
  have HS := Lib.hid hS
  have HH := Lib.hid (symsAt_pos hS)
  clear hS
  go_enter Tryd.func10, Tryd.ntmps10
  go_wp2_with fail
  have Hb0 := Lib.hid ((Below.refl w.heap.size w).alloc (Nat.le_refl _) (.cells (exOne.map fun t => Value.string ⟨t.text.toArray⟩).toArray 9))
  refine (texts_yes ⟨#[97, 46, 98, 32, 58, 61, 32, 111, 108, 100, 40, 99, 41, 32, 43, 32, 49, 59, 32, 47, 47, 32, 120]⟩ _ w.heap.size 11 (symsAt_below HS.out Hb0.out HH.out) (by decide) exOne ex_one (by decide) (by simp) (textsAt_toks w exOne 9)).mono ?_
  rintro e w1 ⟨rfl, hb1⟩
  have Hb1 := Lib.hid (below_step Hb0.out (Nat.le_refl _) hb1)
  clear hb1
  go_wp2_with fail
  have Hb2 := Lib.hid (Hb1.out.alloc Hb1.out.size (.cells (exTwo.map fun t => Value.string ⟨t.text.toArray⟩).toArray 9))
  refine (texts_yes ⟨#[112, 32, 61, 61, 62, 32, 113, 61, 61, 114, 60, 61, 115]⟩ _ w1.heap.size 7 (symsAt_below HS.out Hb2.out HH.out) (by decide) exTwo ex_two (by decide) (by simp) (textsAt_toks w1 exTwo 9)).mono ?_
  rintro e w2 ⟨rfl, hb2⟩
  have Hb3 := Lib.hid (below_step Hb2.out (Nat.le_refl _) hb2)
  clear hb2
  go_wp2_with fail
  refine (fails_yes ⟨#[120, 32, 58, 61, 32, 48, 55]⟩ 5 _ (symsAt_below HS.out Hb3.out HH.out) (by decide) ex_three).mono ?_
  rintro e w3 ⟨rfl, hb3⟩
  have Hb4 := Lib.hid (below_step Hb3.out (Nat.le_refl _) hb3)
  clear hb3
  go_wp2_with fail
  refine (fails_yes ⟨#[97, 32, 62, 32, 98]⟩ 2 _ (symsAt_below HS.out Hb4.out HH.out) (by decide) ex_four).mono ?_
  rintro e w4 ⟨rfl, hb4⟩
  have Hb5 := Lib.hid (below_step Hb4.out (Nat.le_refl _) hb4)
  clear hb4
  go_wp2_with fail
  go_ret
  exact ⟨rfl, Hb5.out⟩

end Go.Proofs.YtpggfkdfchafhaaDoor
